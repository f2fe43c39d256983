package aes_test

import (
	"bytes"
	standard "crypto/aes"
	"encoding/hex"
	"math/rand"
	"slices"
	"testing"

	"coresec/aes"
	"coresec/api"
)

// hx returns the bytes of hexadecimal digits.
func hx(s string) []byte {
	b, err := hex.DecodeString(s)
	if err != nil {
		panic(err)
	}
	return b
}

// random returns n bytes.
func random(r *rand.Rand, n int) []byte {
	b := make([]byte, n)
	r.Read(b)
	return b
}

// get returns the result of a call, which must be OK and have n bytes.
func get(t *testing.T, n int, out []byte, e api.Errno) []byte {
	t.Helper()
	if e != api.OK || len(out) != n {
		t.Fatalf("%d bytes, error %d, want %d bytes", len(out), e, n)
	}
	return out
}

func expand(t *testing.T, key []byte) []byte {
	t.Helper()
	out, e := aes.Expand(key)
	return get(t, 176, out, e)
}

func encrypt(t *testing.T, key, block []byte) []byte {
	t.Helper()
	out, e := aes.Encrypt(key, block)
	return get(t, 16, out, e)
}

func decrypt(t *testing.T, key, block []byte) []byte {
	t.Helper()
	out, e := aes.Decrypt(key, block)
	return get(t, 16, out, e)
}

// check compares what becomes of a block with what the standard library makes of it, in both directions.
func check(t *testing.T, key, block []byte) {
	t.Helper()
	c, err := standard.NewCipher(key)
	if err != nil {
		t.Fatal(err)
	}
	want := make([]byte, 16)
	c.Encrypt(want, block)
	if got := encrypt(t, key, block); !bytes.Equal(got, want) {
		t.Errorf("Encrypt(%x, %x): %x, want %x", key, block, got, want)
	}
	c.Decrypt(want, block)
	if got := decrypt(t, key, block); !bytes.Equal(got, want) {
		t.Errorf("Decrypt(%x, %x): %x, want %x", key, block, got, want)
	}
}

// times multiplies polynomials modulo x^8 + x^4 + x^3 + x + 1, term by term.
func times(a, b byte) byte {
	product := 0
	for i := range 8 {
		if b>>i&1 == 1 {
			product ^= int(a) << i
		}
	}
	for i := 7; i >= 0; i-- {
		if product>>(8+i)&1 == 1 {
			product ^= 0x11b << i
		}
	}
	return byte(product)
}

// substitute follows the definition: the inverse is searched for.
func substitute(x byte) byte {
	var b byte
	for i := range 256 {
		if times(x, byte(i)) == 1 {
			b = byte(i)
		}
	}
	out := b ^ 99
	for n := 1; n <= 4; n++ {
		out ^= b<<n | b>>(8-n)
	}
	return out
}

// schedule follows the definition of the key schedule, word by word.
func schedule(key []byte) []byte {
	words := slices.Collect(slices.Chunk(key, 4))
	for i := 4; i < 44; i++ {
		before := slices.Clone(words[i-1])
		if i%4 == 0 {
			before = append(before[1:], before[0])
			for j := range before {
				before[j] = substitute(before[j])
			}
			power := byte(1)
			for range i/4 - 1 {
				power = times(power, 2)
			}
			before[0] ^= power
		}
		for j := range before {
			before[j] ^= words[i-4][j]
		}
		words = append(words, before)
	}
	return slices.Concat(words...)
}

// P6.1: the example of the chapter, and others that were published with the cipher and with its modes (FIPS 197, B and C.1; SP 800-38A, F.1.1; the first of the known answers).
func TestPublished(t *testing.T) {
	const key = "2b7e151628aed2a6abf7158809cf4f3c"
	for _, x := range [][3]string{
		{"000102030405060708090a0b0c0d0e0f", "00112233445566778899aabbccddeeff", "69c4e0d86a7b0430d8cdb78070b4c55a"},
		{key, "3243f6a8885a308d313198a2e0370734", "3925841d02dc09fbdc118597196a0b32"},
		{key, "6bc1bee22e409f96e93d7e117393172a", "3ad77bb40d7a3660a89ecaf32466ef97"},
		{key, "ae2d8a571e03ac9c9eb76fac45af8e51", "f5d3d58503b9699de785895a96fdbaaf"},
		{key, "30c81c46a35ce411e5fbc1191a0a52ef", "43b1cd7f598ece23881b00e3ed030688"},
		{key, "f69f2445df4f9b17ad2b417be66c3710", "7b0c785e27e8ad3f8223207104725dd4"},
		{"00000000000000000000000000000000", "00000000000000000000000000000000", "66e94bd4ef8a2c3b884cfa59ca342b2e"},
	} {
		if got := encrypt(t, hx(x[0]), hx(x[1])); hex.EncodeToString(got) != x[2] {
			t.Errorf("Encrypt(%s, %s): %x, want %s", x[0], x[1], got, x[2])
		}
		if got := decrypt(t, hx(x[0]), hx(x[2])); hex.EncodeToString(got) != x[1] {
			t.Errorf("Decrypt(%s, %s): %x, want %s", x[0], x[2], got, x[1])
		}
	}
}

// P6.1: the key schedule of FIPS 197, A.1.
func TestPublishedSchedule(t *testing.T) {
	const want = "2b7e151628aed2a6abf7158809cf4f3c" +
		"a0fafe1788542cb123a339392a6c7605" +
		"f2c295f27a96b9435935807a7359f67f" +
		"3d80477d4716fe3e1e237e446d7a883b" +
		"ef44a541a8525b7fb671253bdb0bad00" +
		"d4d1c6f87c839d87caf2b8bc11f915bc" +
		"6d88a37a110b3efddbf98641ca0093fd" +
		"4e54f70e5f5fc9f384a64fb24ea6dc4f" +
		"ead27321b58dbad2312bf5607f8d292f" +
		"ac7766f319fadc2128d12941575c006e" +
		"d014f9a8c9ee2589e13f0cc8b6630ca6"
	if got := expand(t, hx(want[:32])); hex.EncodeToString(got) != want {
		t.Errorf("Expand: %x, want %s", got, want)
	}
}

// P6.1: key schedules are those of the definition.
func TestSchedule(t *testing.T) {
	keys := [][]byte{make([]byte, 16), bytes.Repeat([]byte{0xff}, 16)}
	for i := range 128 {
		key := make([]byte, 16)
		key[i/8] = 1 << (i % 8)
		keys = append(keys, key)
	}
	r := rand.New(rand.NewSource(6))
	for range 20 {
		keys = append(keys, random(r, 16))
	}
	for _, key := range keys {
		if got, want := expand(t, key), schedule(key); !bytes.Equal(got, want) {
			t.Errorf("Expand(%x): %x, want %x", key, got, want)
		}
	}
}

// P6.1: the substitutes of all bytes, at each place of a word, as the fifth word of a schedule shows them.
func TestSubstitutes(t *testing.T) {
	if substitute(0) != 0x63 || substitute(0x53) != 0xed {
		t.Fatal("not the examples of the chapter")
	}
	for x := range 256 {
		want := substitute(byte(x))
		for place := range 4 {
			key := make([]byte, 16)
			key[12+place] = byte(x)
			word := []byte{0x63 ^ 1, 0x63, 0x63, 0x63}
			word[(place+3)%4] ^= 0x63 ^ want
			if got := expand(t, key)[16:20]; !bytes.Equal(got, word) {
				t.Errorf("the byte %x at %d: %x, want %x", x, place, got, word)
			}
		}
	}
}

// P6.1: each bit of a key and of a block counts, alone and as the only one that is missing.
func TestBits(t *testing.T) {
	zero, ones := make([]byte, 16), bytes.Repeat([]byte{0xff}, 16)
	for i := range 128 {
		one, hole := slices.Clone(zero), slices.Clone(ones)
		one[i/8] ^= 1 << (i % 8)
		hole[i/8] ^= 1 << (i % 8)
		for _, x := range [][]byte{one, hole} {
			check(t, x, zero)
			check(t, x, ones)
			check(t, zero, x)
			check(t, ones, x)
			check(t, x, x)
		}
	}
}

// P6.1: each value of a byte, at each place of a block and of a key.
func TestBytes(t *testing.T) {
	for x := range 256 {
		for place := range 16 {
			b := make([]byte, 16)
			b[place] = byte(x)
			check(t, make([]byte, 16), b)
			check(t, b, make([]byte, 16))
		}
		same := bytes.Repeat([]byte{byte(x)}, 16)
		check(t, same, same)
	}
}

func TestRandom(t *testing.T) {
	r := rand.New(rand.NewSource(61))
	for range 5000 {
		check(t, random(r, 16), random(r, 16))
	}
}

// P6.1: a key or a block that does not have 16 bytes.
func TestRefused(t *testing.T) {
	lengths := []int{48, 64, 100, 128, 175, 176, 192, 255, 256, 272, 4096, 65552}
	for n := range 41 {
		lengths = append(lengths, n)
	}
	good := make([]byte, 16)
	for _, n := range lengths {
		if n == 16 {
			continue
		}
		b := make([]byte, n, n+16)
		refused(t, "Expand", func() ([]byte, api.Errno) { return aes.Expand(b) })
		for _, x := range [][2][]byte{{b, good}, {good, b}, {b, b}, {b, b[:0]}, {b[:0], b}} {
			refused(t, "Encrypt", func() ([]byte, api.Errno) { return aes.Encrypt(x[0], x[1]) })
			refused(t, "Decrypt", func() ([]byte, api.Errno) { return aes.Decrypt(x[0], x[1]) })
		}
	}
	refused(t, "Expand", func() ([]byte, api.Errno) { return aes.Expand(nil) })
	for _, x := range [][2][]byte{{nil, good}, {good, nil}, {nil, nil}} {
		refused(t, "Encrypt", func() ([]byte, api.Errno) { return aes.Encrypt(x[0], x[1]) })
		refused(t, "Decrypt", func() ([]byte, api.Errno) { return aes.Decrypt(x[0], x[1]) })
	}
}

func refused(t *testing.T, name string, call func() ([]byte, api.Errno)) {
	t.Helper()
	if out, e := call(); e != api.ErrArg || len(out) != 0 {
		t.Errorf("%s of a wrong length: %d bytes, error %d", name, len(out), e)
	}
}

// Consequences: Encrypt and Decrypt undo each other, in both orders.
func TestUndo(t *testing.T) {
	r := rand.New(rand.NewSource(62))
	for range 2000 {
		key, block := random(r, 16), random(r, 16)
		if got := decrypt(t, key, encrypt(t, key, block)); !bytes.Equal(got, block) {
			t.Errorf("Decrypt of Encrypt(%x, %x): %x", key, block, got)
		}
		if got := encrypt(t, key, decrypt(t, key, block)); !bytes.Equal(got, block) {
			t.Errorf("Encrypt of Decrypt(%x, %x): %x", key, block, got)
		}
	}
}

// Consequences: different blocks have different encryptions.
func TestDifferent(t *testing.T) {
	key := hx("2b7e151628aed2a6abf7158809cf4f3c")
	seen := map[[16]byte]bool{}
	for i := range 1 << 14 {
		block := make([]byte, 16)
		block[i%16], block[(i+5)%16] = byte(i>>4), byte(i>>12)+1
		seen[[16]byte(block)] = true
	}
	results := map[[16]byte]bool{}
	for block := range seen {
		results[[16]byte(encrypt(t, key, block[:]))] = true
	}
	if len(results) != len(seen) || len(seen) < 1<<13 {
		t.Errorf("%d blocks have %d encryptions", len(seen), len(results))
	}
}

// R2: arguments are not changed, nor is what stands around them; they may be the same memory.
func TestArguments(t *testing.T) {
	all := random(rand.New(rand.NewSource(63)), 64)
	before := slices.Clone(all)
	for i := range 49 {
		for j := range 49 {
			expand(t, all[i:i+16])
			check(t, all[i:i+16], all[j:j+16])
		}
	}
	if !bytes.Equal(all, before) {
		t.Error("an argument was changed")
	}
}

// R2: results are new memory; arguments are not kept.
func TestResults(t *testing.T) {
	key, block := hx("000102030405060708090a0b0c0d0e0f"), hx("00112233445566778899aabbccddeeff")
	for name, call := range map[string]func() []byte{
		"Expand":  func() []byte { return expand(t, key) },
		"Encrypt": func() []byte { return encrypt(t, key, block) },
		"Decrypt": func() []byte { return decrypt(t, key, block) },
	} {
		first, second := call(), call()
		kept := slices.Clone(first)
		clear(first[:cap(first)])
		if !bytes.Equal(second, kept) || !bytes.Equal(call(), kept) {
			t.Errorf("results of %s share memory", name)
		}
		key[0]++
		block[0]++
		if !bytes.Equal(second, kept) {
			t.Errorf("a result of %s shares memory with an argument", name)
		}
		key[0]--
		block[0]--
	}
}
