package sha_test

import (
	"bytes"
	"crypto/sha256"
	"crypto/sha512"
	"encoding/hex"
	"math"
	"math/rand"
	"slices"
	"strings"
	"testing"

	"coresec/sha"
)

// check compares the hashes of b with those of the standard library.
func check(t *testing.T, b []byte) {
	t.Helper()
	if got, want := sha.Sum256(b), sha256.Sum256(b); !bytes.Equal(got, want[:]) {
		t.Errorf("Sum256 of %d bytes: %x, want %x", len(b), got, want)
	}
	if got, want := sha.Sum512(b), sha512.Sum512(b); !bytes.Equal(got, want[:]) {
		t.Errorf("Sum512 of %d bytes: %x, want %x", len(b), got, want)
	}
}

// P4.1: the example of the chapter, and those that were published with the functions.
func TestPublished(t *testing.T) {
	for _, x := range []struct{ text, want256, want512 string }{
		{"", "e3b0c44298fc1c149afbf4c8996fb92427ae41e4649b934ca495991b7852b855",
			"cf83e1357eefb8bdf1542850d66d8007d620e4050b5715dc83f4a921d36ce9ce47d0d13c5d85f2b0ff8318d2877eec2f63b931bd47417a81a538327af927da3e"},
		{"abc", "ba7816bf8f01cfea414140de5dae2223b00361a396177a9cb410ff61f20015ad",
			"ddaf35a193617abacc417349ae20413112e6fa4e89a97ea20a9eeee64b55d39a2192992a274fc1a836ba3c23a3feebbd454d4423643ce80e2a9ac94fa54ca49f"},
		{"abcdbcdecdefdefgefghfghighijhijkijkljklmklmnlmnomnopnopq", "248d6a61d20638b8e5c026930c3e6039a33ce45964ff2167f6ecedd419db06c1",
			"204a8fc6dda82f0a0ced7beb8e08a41657c16ef468b228a8279be331a703c33596fd15c13b1b07f9aa1d3bea57789ca031ad85c7a71dd70354ec631238ca3445"},
		{"abcdefghbcdefghicdefghijdefghijkefghijklfghijklmghijklmnhijklmnoijklmnopjklmnopqklmnopqrlmnopqrsmnopqrstnopqrstu", "cf5b16a778af8380036ce59e7b0492370b249b11e8f07a51afac45037afee9d1",
			"8e959b75dae313da8cf4f72814fc143f8f7779c6eb9f7fa17299aeadb6889018501d289e4900f7e4331b99dec4b5433ac7d329eeb6dd26545e96e55b874be909"},
		{strings.Repeat("a", 1000000), "cdc76e5c9914fb9281a1c7e284d73e67f1809a48a497200e046d39ccc7112cd0",
			"e718483d0ce769644e2e42c7bc15b4638e1f98b13b2044285632a803afa973ebde0ff244877ea60a4cb0432ce577c31beb009c5c2c49aa2e4eadb217ad8cc09b"},
	} {
		if got := hex.EncodeToString(sha.Sum256([]byte(x.text))); got != x.want256 {
			t.Errorf("Sum256 of %.20q: %s", x.text, got)
		}
		if got := hex.EncodeToString(sha.Sum512([]byte(x.text))); got != x.want512 {
			t.Errorf("Sum512 of %.20q: %s", x.text, got)
		}
	}
}

// P4.1: messages of all lengths up to some blocks, of equal and of different bytes.
func TestLengths(t *testing.T) {
	r := rand.New(rand.NewSource(4))
	mixed := make([]byte, 700)
	r.Read(mixed)
	for n := range mixed {
		check(t, mixed[:n])
		check(t, mixed[len(mixed)-n:])
		check(t, make([]byte, n))
		check(t, bytes.Repeat([]byte{0xff}, n))
	}
}

// P4.1: each bit of a message counts.
func TestBits(t *testing.T) {
	b := make([]byte, 130)
	for i := range 8 * len(b) {
		b[i/8] ^= 1 << (i % 8)
		check(t, b)
		b[i/8] ^= 1 << (i % 8)
	}
}

func TestRandom(t *testing.T) {
	r := rand.New(rand.NewSource(41))
	for range 300 {
		b := make([]byte, r.Intn(20000))
		r.Read(b)
		check(t, b)
	}
}

// P4.1: the length of the message has more than 32 bits.
func TestLong(t *testing.T) {
	if testing.Short() {
		t.Skip("takes some seconds")
	}
	b := make([]byte, 1<<29+1)
	t.Run("256", func(t *testing.T) {
		t.Parallel()
		if got, want := sha.Sum256(b), sha256.Sum256(b); !bytes.Equal(got, want[:]) {
			t.Errorf("%x, want %x", got, want)
		}
	})
	t.Run("512", func(t *testing.T) {
		t.Parallel()
		if got, want := sha.Sum512(b), sha512.Sum512(b); !bytes.Equal(got, want[:]) {
			t.Errorf("%x, want %x", got, want)
		}
	})
}

// P4.2: the edges between numbers of blocks, and what is no length.
func TestBlocks(t *testing.T) {
	for _, x := range [][3]int{
		{math.MinInt, 0, 0}, {-1 << 40, 0, 0}, {-129, 0, 0}, {-128, 0, 0}, {-64, 0, 0}, {-9, 0, 0}, {-1, 0, 0},
		{0, 1, 1}, {1, 1, 1}, {54, 1, 1}, {55, 1, 1}, {56, 2, 1}, {63, 2, 1}, {64, 2, 1}, {110, 2, 1}, {111, 2, 1}, {112, 2, 2}, {119, 2, 2}, {120, 3, 2}, {127, 3, 2}, {128, 3, 2},
		{239, 4, 2}, {240, 4, 3}, {4096, 65, 33}, {1 << 31, 1<<25 + 1, 1<<24 + 1},
		{1<<40 - 17, 1 << 34, 1 << 33}, {1<<40 - 16, 1 << 34, 1<<33 + 1}, {1<<40 - 9, 1 << 34, 1<<33 + 1}, {1<<40 - 8, 1<<34 + 1, 1<<33 + 1}, {1 << 40, 1<<34 + 1, 1<<33 + 1},
	} {
		if a, b := sha.Blocks256(x[0]), sha.Blocks512(x[0]); a != x[1] || b != x[2] {
			t.Errorf("%d bytes: %d and %d blocks, want %d and %d", x[0], a, b, x[1], x[2])
		}
	}
}

// P4.2: the message, one byte and the length take the least number of blocks that has room for them.
func TestBlocksLeast(t *testing.T) {
	for n := range 5000 {
		if b := sha.Blocks256(n); b*64 < n+1+8 || (b-1)*64 >= n+1+8 {
			t.Errorf("Blocks256(%d) = %d", n, b)
		}
		if b := sha.Blocks512(n); b*128 < n+1+16 || (b-1)*128 >= n+1+16 {
			t.Errorf("Blocks512(%d) = %d", n, b)
		}
	}
}

// R1: beyond 2^40 no number is specified, but there is one.
func TestBlocksBeyond(t *testing.T) {
	for _, n := range []int{1<<40 + 1, math.MaxInt - 127, math.MaxInt - 1, math.MaxInt} {
		if sha.Blocks256(n) != sha.Blocks256(n) || sha.Blocks512(n) != sha.Blocks512(n) {
			t.Error("not the same twice:", n)
		}
	}
}

// R2: no bytes are an empty slice; the argument is not changed, nor is what stands behind it.
func TestArguments(t *testing.T) {
	if !bytes.Equal(sha.Sum256(nil), sha.Sum256([]byte{})) || !bytes.Equal(sha.Sum512(nil), sha.Sum512([]byte{})) {
		t.Error("nil and an empty slice differ")
	}
	all := make([]byte, 1024)
	rand.New(rand.NewSource(42)).Read(all)
	before := slices.Clone(all)
	for n := range 400 {
		sha.Sum256(all[:n])
		sha.Sum512(all[:n])
	}
	if !bytes.Equal(all, before) {
		t.Error("an argument was changed")
	}
}

// Consequences: neither the capacity nor later changes of the argument are seen. R2: results are new memory.
func TestResults(t *testing.T) {
	for _, sum := range []func([]byte) []byte{sha.Sum256, sha.Sum512} {
		b := append(make([]byte, 0, 500), "a message"...)
		first := sum(b)
		kept := slices.Clone(first)
		if !bytes.Equal(sum(slices.Clip(slices.Clone(b))), kept) {
			t.Error("the capacity is seen")
		}
		b[0] ^= 1
		if !bytes.Equal(first, kept) {
			t.Error("a later change is seen")
		}
		b[0] ^= 1
		second := sum(b)
		clear(first[:cap(first)])
		if !bytes.Equal(second, kept) || !bytes.Equal(sum(b), kept) {
			t.Error("results share memory")
		}
	}
}
