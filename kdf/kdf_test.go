package kdf_test

import (
	"bytes"
	"crypto/hkdf"
	"crypto/hmac"
	"crypto/sha256"
	"encoding/hex"
	"math"
	"math/rand"
	"slices"
	"testing"

	"coresec/api"
	"coresec/kdf"
)

const longest = 255 * 32

// random returns n bytes.
func random(r *rand.Rand, n int) []byte {
	b := make([]byte, n)
	r.Read(b)
	return b
}

// count returns the bytes from first on, n of them.
func count(first byte, n int) []byte {
	b := make([]byte, n)
	for i := range b {
		b[i] = first + byte(i)
	}
	return b
}

// checkHMAC compares a code with that of the standard library.
func checkHMAC(t *testing.T, key, b []byte) {
	t.Helper()
	h := hmac.New(sha256.New, key)
	h.Write(b)
	if got := kdf.HMAC(key, b); !bytes.Equal(got, h.Sum(nil)) {
		t.Errorf("HMAC of a key of %d and %d bytes: %x, want %x", len(key), len(b), got, h.Sum(nil))
	}
}

// expand returns the result of Expand, which must be OK.
func expand(t *testing.T, prk, info []byte, n int) []byte {
	t.Helper()
	out, e := kdf.Expand(prk, info, n)
	if e != api.OK {
		t.Fatalf("Expand of %d bytes: error %d", n, e)
	}
	return out
}

// checkExpand compares a result of Expand with that of the standard library.
func checkExpand(t *testing.T, prk, info []byte, n int) {
	t.Helper()
	want, err := hkdf.Expand(sha256.New, prk, string(info), n)
	if err != nil {
		t.Fatal(err)
	}
	if got := expand(t, prk, info, n); !bytes.Equal(got, want) {
		t.Errorf("Expand of a prk of %d, an info of %d, %d bytes: %x, want %x", len(prk), len(info), n, got, want)
	}
}

// P5.1: the example of the chapter, and the others of RFC 4231 (of one of which the first 16 bytes are published).
func TestPublishedHMAC(t *testing.T) {
	repeat := func(x byte, n int) []byte { return bytes.Repeat([]byte{x}, n) }
	for _, x := range []struct {
		key, b []byte
		want   string
	}{
		{repeat(0x0b, 20), []byte("Hi There"), "b0344c61d8db38535ca8afceaf0bf12b881dc200c9833da726e9376c2e32cff7"},
		{[]byte("Jefe"), []byte("what do ya want for nothing?"), "5bdcc146bf60754e6a042426089575c75a003f089d2739839dec58b964ec3843"},
		{repeat(0xaa, 20), repeat(0xdd, 50), "773ea91e36800e46854db8ebd09181a72959098b3ef8c122d9635514ced565fe"},
		{count(1, 25), repeat(0xcd, 50), "82558a389a443c0ea4cc819899f2083a85f0faa3e578f8077a2e3ff46729665b"},
		{repeat(0x0c, 20), []byte("Test With Truncation"), "a3b6167473100ee06e0c796c2955552b"},
		{repeat(0xaa, 131), []byte("Test Using Larger Than Block-Size Key - Hash Key First"), "60e431591ee0b67f0d8a26aacbf5b77f8e0bc6213728c5140546040f0ee37f54"},
		{repeat(0xaa, 131), []byte("This is a test using a larger than block-size key and a larger than block-size data. The key needs to be hashed before being used by the HMAC algorithm."), "9b09ffa71b942fcb27635fbcd5b0e944bfdc63644f0713938a7f51535c3a35e2"},
	} {
		got := kdf.HMAC(x.key, x.b)
		if len(got) != 32 || hex.EncodeToString(got[:len(x.want)/2]) != x.want {
			t.Errorf("HMAC of %.30q: %x, want %s", x.b, got, x.want)
		}
	}
}

// P5.1: keys and texts of all lengths around those of one and two blocks.
func TestLengthsHMAC(t *testing.T) {
	r := rand.New(rand.NewSource(5))
	for n := range 200 {
		checkHMAC(t, random(r, n), random(r, 20))
		checkHMAC(t, random(r, 20), random(r, n))
		checkHMAC(t, random(r, n), random(r, n))
	}
	for _, n := range []int{0, 32, 63, 64, 65, 128, 5000} {
		checkHMAC(t, random(r, n), nil)
		checkHMAC(t, nil, random(r, n))
	}
}

// P5.1: the key is hashed from 65 bytes on, and not before.
func TestLongKeys(t *testing.T) {
	key, b := count(1, 65), []byte("a text")
	for _, n := range []int{0, 1, 63, 64} {
		h := sha256.Sum256(key[:n])
		if bytes.Equal(kdf.HMAC(key[:n], b), kdf.HMAC(h[:], b)) {
			t.Errorf("a key of %d bytes is hashed", n)
		}
	}
	if h := sha256.Sum256(key); !bytes.Equal(kdf.HMAC(key, b), kdf.HMAC(h[:], b)) {
		t.Error("a key of 65 bytes is not hashed")
	}
}

// Consequences: zero bytes behind a key of at most 64 bytes, up to 64, change nothing; one more does.
func TestZeroBytes(t *testing.T) {
	key := count(1, 64)
	b, info := []byte("a text"), []byte("an info")
	for n := range 65 {
		short := key[:n:n]
		long := append(short, make([]byte, 64-n)...)
		if !bytes.Equal(kdf.HMAC(short, b), kdf.HMAC(long, b)) || !bytes.Equal(kdf.Extract(short, b), kdf.Extract(long, b)) {
			t.Errorf("the zero bytes behind a key of %d bytes are seen", n)
		}
		if !bytes.Equal(expand(t, short, info, 70), expand(t, long, info, 70)) {
			t.Errorf("the zero bytes behind a prk of %d bytes are seen", n)
		}
		if bytes.Equal(kdf.HMAC(short, b), kdf.HMAC(append(long, 0), b)) {
			t.Errorf("65 bytes, %d of them not zero, are as good as 64", n)
		}
	}
}

// P5.2: the example of the chapter, and the others of RFC 5869 with SHA-256.
func TestPublishedExpand(t *testing.T) {
	for _, x := range []struct {
		salt, ikm, info []byte
		n               int
		prk, okm        string
	}{
		{count(0, 13), bytes.Repeat([]byte{0x0b}, 22), count(0xf0, 10), 42, "077709362c2e32df0ddc3f0dc47bba6390b6c73bb50f9c3122ec844ad7c2b3e5",
			"3cb25f25faacd57a90434f64d0362f2a2d2d0a90cf1a5a4c5db02d56ecc4c5bf34007208d5b887185865"},
		{count(0x60, 80), count(0, 80), count(0xb0, 80), 82, "06a6b88c5853361a06104c9ceb35b45cef760014904671014a193f40c15fc244",
			"b11e398dc80327a1c8e7f78c596a49344f012eda2d4efad8a050cc4c19afa97c59045a99cac7827271cb41c65e590e09da3275600c2f09b8367793a9aca3db71cc30c58179ec3e87c14c01d5c1f3434f1d87"},
		{nil, bytes.Repeat([]byte{0x0b}, 22), nil, 42, "19ef24a32c717b167f33a91d6f648bdf96596776afdb6377ac434c1c293ccb04",
			"8da4e775a563c18f715f802a063c5a31b8a11f5c5ee1879ec3454e5f3c738d2d9d201395faa4b61a96c8"},
	} {
		prk := kdf.Extract(x.salt, x.ikm)
		if got := hex.EncodeToString(prk); got != x.prk {
			t.Errorf("Extract: %s, want %s", got, x.prk)
		}
		if got := hex.EncodeToString(expand(t, prk, x.info, x.n)); got != x.okm {
			t.Errorf("Expand: %s, want %s", got, x.okm)
		}
	}
}

// P5.2: the salt is the key of HMAC, and the ikm its text.
func TestExtract(t *testing.T) {
	r := rand.New(rand.NewSource(51))
	for n := range 140 {
		salt, ikm := random(r, n), random(r, r.Intn(140))
		want, err := hkdf.Extract(sha256.New, ikm, salt)
		if err != nil {
			t.Fatal(err)
		}
		if got := kdf.Extract(salt, ikm); !bytes.Equal(got, want) || !bytes.Equal(got, kdf.HMAC(salt, ikm)) {
			t.Errorf("Extract of a salt of %d and %d bytes: %x, want %x", len(salt), len(ikm), got, want)
		}
	}
}

// P5.2: all numbers of bytes of some parts, and those at the end; prks and infos of many lengths.
func TestLengthsExpand(t *testing.T) {
	r := rand.New(rand.NewSource(52))
	prk, info := random(r, 32), random(r, 10)
	for n := range 200 {
		checkExpand(t, prk, info, n)
		checkExpand(t, prk, random(r, n), 70)
		checkExpand(t, random(r, n), info, 70)
	}
	for _, n := range []int{longest - 33, longest - 32, longest - 31, longest - 1, longest} {
		checkExpand(t, prk, info, n)
		checkExpand(t, prk, nil, n)
	}
}

// Consequences: fewer bytes are the beginning of more.
func TestBeginnings(t *testing.T) {
	prk, info := count(7, 32), []byte("an info")
	all := expand(t, prk, info, longest)
	for n := 0; n <= longest; n += 31 {
		if !bytes.Equal(expand(t, prk, info, n), all[:n]) {
			t.Errorf("%d bytes are not the beginning", n)
		}
	}
}

// P5.2: numbers of bytes that are refused, whatever the other arguments are.
func TestRefused(t *testing.T) {
	for _, n := range []int{math.MinInt, -1 << 32, -longest, -32, -1, longest + 1, longest + 32, 1 << 16, 1 << 32, 1<<32 + 1, math.MaxInt - 30, math.MaxInt} {
		for _, prk := range [][]byte{nil, count(0, 32), count(0, 100)} {
			if out, e := kdf.Expand(prk, count(0, 5), n); e != api.ErrArg || len(out) != 0 {
				t.Errorf("Expand of %d bytes: %d bytes, error %d", n, len(out), e)
			}
		}
	}
}

// blocks returns the number of blocks that SHA-256 hashes for a message of n bytes.
func blocks(n int) int { return (n + 1 + 8 + 63) / 64 }

// calls follows the definition of HMAC and counts the blocks.
func calls(key, b int) int {
	n := 0
	if key > 64 {
		n = blocks(key)
	}
	return n + blocks(64+b) + blocks(64+32)
}

// expandCalls follows the definition of Expand and counts the blocks.
func expandCalls(prk, info, n int) int {
	sum, before := 0, 0
	for done := 0; done < n; done += 32 {
		sum += calls(prk, before+info+1)
		before = 32
	}
	return sum
}

// P5.3: numbers that were counted by hand, at the edges between numbers of blocks.
func TestCalls(t *testing.T) {
	for _, x := range [][3]int{
		{0, 0, 4}, {1, 0, 4}, {63, 0, 4}, {64, 0, 4}, {65, 0, 6}, {119, 0, 6}, {120, 0, 7}, {183, 0, 7}, {184, 0, 8},
		{0, 1, 4}, {0, 55, 4}, {0, 56, 5}, {32, 119, 5}, {32, 120, 6}, {64, 4096, 68}, {65, 4096, 70}, {4096, 4096, 133},
		{1 << 30, 0, 1<<24 + 5}, {0, 1 << 30, 1<<24 + 4}, {1 << 30, 1 << 30, 1<<25 + 5}, {1<<30 - 9, 1<<30 - 9, 1<<25 + 3}, {1<<30 - 8, 1<<30 - 8, 1<<25 + 5},
	} {
		if n := kdf.Calls(x[0], x[1]); n != x[2] {
			t.Errorf("Calls(%d, %d) = %d, want %d", x[0], x[1], n, x[2])
		}
	}
	for _, x := range [][4]int{
		{32, 10, 0, 0}, {32, 10, 1, 4}, {32, 10, 31, 4}, {32, 10, 32, 4}, {32, 10, 33, 8}, {32, 10, 64, 8}, {32, 10, 65, 12},
		{32, 22, 33, 8}, {32, 23, 33, 9}, {32, 30, 42, 9}, {32, 54, 42, 9}, {32, 55, 42, 10}, {32, 86, 32, 5}, {32, 87, 32, 5},
		{64, 0, 33, 8}, {65, 0, 32, 6}, {65, 0, 33, 12}, {120, 0, 33, 14}, {100, 10, 0, 0},
		{32, 0, longest - 32, 4 * 254}, {32, 0, longest - 31, 4 * 255}, {32, 0, longest, 4 * 255},
		{1 << 30, 1 << 30, longest, 255 * (1<<25 + 5)},
	} {
		if n := kdf.ExpandCalls(x[0], x[1], x[2]); n != x[3] {
			t.Errorf("ExpandCalls(%d, %d, %d) = %d, want %d", x[0], x[1], x[2], n, x[3])
		}
	}
}

// P5.3: the numbers are those that the definitions lead to.
func TestCallsDefined(t *testing.T) {
	for key := range 300 {
		for b := range 300 {
			if got, want := kdf.Calls(key, b), calls(key, b); got != want {
				t.Fatalf("Calls(%d, %d) = %d, want %d", key, b, got, want)
			}
		}
	}
	for n := range longest + 1 {
		for _, x := range [][2]int{{0, 0}, {32, 22}, {64, 23}, {65, 86}, {120, 200}} {
			if got, want := kdf.ExpandCalls(x[0], x[1], n), expandCalls(x[0], x[1], n); got != want {
				t.Fatalf("ExpandCalls(%d, %d, %d) = %d, want %d", x[0], x[1], n, got, want)
			}
		}
	}
	r := rand.New(rand.NewSource(53))
	for range 3000 {
		a, b, n := r.Intn(1<<30+1), r.Intn(1<<30+1), r.Intn(longest+1)
		if got, want := kdf.Calls(a, b), calls(a, b); got != want {
			t.Fatalf("Calls(%d, %d) = %d, want %d", a, b, got, want)
		}
		if got, want := kdf.ExpandCalls(a, b, n), expandCalls(a, b, n); got != want {
			t.Fatalf("ExpandCalls(%d, %d, %d) = %d, want %d", a, b, n, got, want)
		}
	}
}

// R1 and R3: beyond the arguments for which they are specified, the numbers come soon, and the same ones each time.
func TestCallsBeyond(t *testing.T) {
	numbers := []int{math.MinInt, -1 << 40, -65, -1, 0, 64, 1<<30 + 1, 1 << 40, math.MaxInt - 64, math.MaxInt - 32, math.MaxInt}
	for _, a := range numbers {
		for _, b := range numbers {
			if kdf.Calls(a, b) != kdf.Calls(a, b) {
				t.Errorf("Calls(%d, %d) differs", a, b)
			}
			for _, n := range numbers {
				if kdf.ExpandCalls(a, b, n) != kdf.ExpandCalls(a, b, n) {
					t.Errorf("ExpandCalls(%d, %d, %d) differs", a, b, n)
				}
			}
		}
	}
}

// R2: no bytes are an empty slice; arguments are not changed, nor is what stands behind them.
func TestArguments(t *testing.T) {
	empty := []byte{}
	if !bytes.Equal(kdf.HMAC(nil, nil), kdf.HMAC(empty, empty)) || !bytes.Equal(kdf.Extract(nil, nil), kdf.Extract(empty, empty)) || !bytes.Equal(expand(t, nil, nil, 40), expand(t, empty, empty, 40)) {
		t.Error("nil and an empty slice differ")
	}
	r := rand.New(rand.NewSource(54))
	one, two := random(r, 400), random(r, 400)
	before1, before2 := slices.Clone(one), slices.Clone(two)
	for n := range 200 {
		kdf.HMAC(one[:n], two[:n])
		kdf.Extract(one[:n], two[:n])
		expand(t, one[:n], two[:n], 3*n)
	}
	if !bytes.Equal(one, before1) || !bytes.Equal(two, before2) {
		t.Error("an argument was changed")
	}
}

// R2: results are new memory, and nothing of what was not asked for stands behind them.
func TestResults(t *testing.T) {
	key, b := count(1, 32), []byte("a text")
	for name, get := range map[string]func() []byte{
		"HMAC":    func() []byte { return kdf.HMAC(key, b) },
		"Extract": func() []byte { return kdf.Extract(key, b) },
		"Expand":  func() []byte { return expand(t, key, b, 42) },
	} {
		first, second := get(), get()
		kept := slices.Clone(first)
		clear(first[:cap(first)])
		if !bytes.Equal(second, kept) || !bytes.Equal(get(), kept) {
			t.Errorf("results of %s share memory", name)
		}
		key[0]++
		if !bytes.Equal(second, kept) {
			t.Errorf("a result of %s shares memory with an argument", name)
		}
		key[0]--
	}
	for _, n := range []int{0, 1, 31, 42, 8000} {
		if out := expand(t, key, b, n); cap(out) != n {
			t.Errorf("behind %d bytes of Expand there are %d more", n, cap(out)-n)
		}
	}
}
