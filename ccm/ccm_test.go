package ccm_test

import (
	"bytes"
	"crypto/aes"
	"encoding/hex"
	"math"
	"math/rand"
	"slices"
	"testing"

	"coresec/api"
	"coresec/ccm"
)

// hx returns the bytes of hexadecimal digits.
func hx(s string) []byte {
	b, err := hex.DecodeString(s)
	if err != nil {
		panic(err)
	}
	return b
}

// random returns n bytes.
func random(r *rand.Rand, n int) []byte {
	b := make([]byte, n)
	r.Read(b)
	return b
}

func seal(t *testing.T, key, nonce, aad, plain []byte, tag int) []byte {
	t.Helper()
	out, e := ccm.Seal(key, nonce, aad, plain, tag)
	if e != api.OK {
		t.Fatalf("Seal with a nonce of %d, an aad of %d, a plain of %d and a tag of %d bytes: error %d", len(nonce), len(aad), len(plain), tag, e)
	}
	return out
}

func open(t *testing.T, key, nonce, aad, cipher []byte, tag int) []byte {
	t.Helper()
	out, e := ccm.Open(key, nonce, aad, cipher, tag)
	if e != api.OK {
		t.Fatalf("Open with a nonce of %d, an aad of %d, a cipher of %d and a tag of %d bytes: error %d", len(nonce), len(aad), len(cipher), tag, e)
	}
	return out
}

// padded returns b with zero bytes up to a multiple of 16.
func padded(b []byte) []byte { return append(b, make([]byte, (16-len(b)%16)%16)...) }

// defined follows the definitions with the block cipher of the standard library. It returns the result of Seal and the number of encryptions.
func defined(key, nonce, aad, plain []byte, tag int) ([]byte, int) {
	c, err := aes.NewCipher(key)
	if err != nil {
		panic(err)
	}
	n := 0
	encrypt := func(b []byte) []byte {
		n++
		out := make([]byte, 16)
		c.Encrypt(out, b)
		return out
	}
	size := 15 - len(nonce)
	block := func(first, i int) []byte {
		b := slices.Concat([]byte{byte(first)}, nonce, make([]byte, size))
		b[14], b[15] = byte(i>>8), byte(i)
		return b
	}
	first := 8*(tag/2-1) + size - 1
	if len(aad) > 0 {
		first += 64
	}
	all := block(first, len(plain))
	if len(aad) > 0 {
		all = padded(slices.Concat(all, []byte{byte(len(aad) >> 8), byte(len(aad))}, aad))
	}
	all = padded(slices.Concat(all, plain))
	x := make([]byte, 16)
	for b := range slices.Chunk(all, 16) {
		for i := range x {
			x[i] ^= b[i]
		}
		x = encrypt(x)
	}
	out := slices.Clone(plain)
	for i := range out {
		if i%16 == 0 {
			key := encrypt(block(size-1, i/16+1))
			for j := i; j < min(i+16, len(out)); j++ {
				out[j] ^= key[j-i]
			}
		}
	}
	for i, k := range encrypt(block(size-1, 0))[:tag] {
		out = append(out, x[i]^k)
	}
	return out, n
}

// check compares what Seal, Open and Calls return with what the definitions lead to.
func check(t *testing.T, key, nonce, aad, plain []byte, tag int) {
	t.Helper()
	want, n := defined(key, nonce, aad, plain, tag)
	if got := seal(t, key, nonce, aad, plain, tag); !bytes.Equal(got, want) {
		t.Errorf("Seal(%x, %x, %x, %x, %d): %x, want %x", key, nonce, aad, plain, tag, got, want)
	}
	if got := open(t, key, nonce, aad, want, tag); !bytes.Equal(got, plain) {
		t.Errorf("Open(%x, %x, %x, %x, %d): %x, want %x", key, nonce, aad, want, tag, got, plain)
	}
	if got := ccm.Calls(len(aad), len(plain)); got != n {
		t.Errorf("Calls(%d, %d): %d, want %d", len(aad), len(plain), got, n)
	}
}

// refused tells of a result that is not just the error e.
func refused(t *testing.T, name string, want api.Errno, out []byte, e api.Errno) {
	t.Helper()
	if e != want || len(out) != 0 {
		t.Errorf("%s: %d bytes, error %d, want error %d", name, len(out), e, want)
	}
}

// P7.1: all lengths around the valid ones, and others.
func TestValid(t *testing.T) {
	tags := []int{math.MinInt, -1 << 32, -16, -8, -4, -1, 1<<8 + 8, 1<<16 + 8, 1<<32 + 8, math.MaxInt - 7, math.MaxInt}
	for n := range 40 {
		tags = append(tags, n)
	}
	good := []int{4, 6, 8, 10, 12, 14, 16}
	for key := range 40 {
		for nonce := range 40 {
			for _, tag := range tags {
				want := key == 16 && nonce >= 7 && nonce <= 13 && slices.Contains(good, tag)
				if got := ccm.Valid(make([]byte, key), make([]byte, nonce), tag); got != want {
					t.Errorf("Valid of a key of %d, a nonce of %d and a tag of %d bytes: %t", key, nonce, tag, got)
				}
			}
		}
	}
	if ccm.Valid(nil, make([]byte, 13), 8) || ccm.Valid(make([]byte, 16), nil, 8) || ccm.Valid(nil, nil, 0) {
		t.Error("nil is valid")
	}
	for _, n := range []int{256 + 13, 256 + 16, 4096, 1<<16 + 13, 1<<16 + 16} {
		if ccm.Valid(make([]byte, n), make([]byte, 13), 8) || ccm.Valid(make([]byte, 16), make([]byte, n), 8) {
			t.Errorf("%d bytes are valid", n)
		}
	}
}

// P7.2, P7.3: the example of the chapter, and others that were published (RFC 3610, 8; SP 800-38C, C; RFC 8613, C.4).
func TestPublished(t *testing.T) {
	const (
		key  = "c0c1c2c3c4c5c6c7c8c9cacbcccdcecf"
		from = "000102030405060708090a0b0c0d0e0f101112131415161718191a1b1c1d1e1f20"
	)
	for _, x := range []struct {
		key, nonce, aad, plain string
		tag                    int
		want                   string
	}{
		{key, "00000003020100a0a1a2a3a4a5", from[:16], from[16:62], 8, "588c979a61c663d2f066d0c2c0f989806d5f6b61dac38417e8d12cfdf926e0"},
		{key, "00000004030201a0a1a2a3a4a5", from[:16], from[16:64], 8, "72c91a36e135f8cf291ca894085c87e3cc15c439c9e43a3ba091d56e10400916"},
		{key, "00000005040302a0a1a2a3a4a5", from[:16], from[16:66], 8, "51b1e5f44a197d1da46b0f8e2d282ae871e838bb64da8596574adaa76fbd9fb0c5"},
		{key, "00000006050403a0a1a2a3a4a5", from[:24], from[24:62], 8, "a28c6865939a9a79faaa5c4c2a9d4a91cdac8c96c861b9c9e61ef1"},
		{key, "00000007060504a0a1a2a3a4a5", from[:24], from[24:64], 8, "dcf1fb7b5d9e23fb9d4e131253658ad86ebdca3e51e83f077d9c2d93"},
		{key, "00000008070605a0a1a2a3a4a5", from[:24], from[24:66], 8, "6fc1b011f006568b5171a42d953d469b2570a4bd87405a0443ac91cb94"},
		{key, "00000009080706a0a1a2a3a4a5", from[:16], from[16:62], 10, "0135d1b2c95f41d5d1d4fec185d166b8094e999dfed96c048c56602c97acbb7490"},
		{key, "0000000a090807a0a1a2a3a4a5", from[:16], from[16:64], 10, "7b75399ac0831dd2f0bbd75879a2fd8f6cae6b6cd9b7db24c17b4433f434963f34b4"},
		{key, "0000000b0a0908a0a1a2a3a4a5", from[:16], from[16:66], 10, "82531a60cc24945a4b8279181ab5c84df21ce7f9b73f42e197ea9c07e56b5eb17e5f4e"},
		{key, "0000000c0b0a09a0a1a2a3a4a5", from[:24], from[24:62], 10, "07342594157785152b074098330abb141b947b566aa9406b4d999988dd"},
		{key, "0000000d0c0b0aa0a1a2a3a4a5", from[:24], from[24:64], 10, "676bb20380b0e301e8ab79590a396da78b834934f53aa2e9107a8b6c022c"},
		{key, "0000000e0d0c0ba0a1a2a3a4a5", from[:24], from[24:66], 10, "c0ffa0d6f05bdb67f24d43a4338d2aa4bed7b20e43cd1aa31662e7ad65d6db"},
		{"d7828d13b2b0bdc325a76236df93cc6b", "00412b4ea9cdbe3c9696766cfa", "0be1a88bace018b1", "08e8cf97d820ea258460e96ad9cf5289054d895ceac47c", 8, "4cb97f86a2a4689a877947ab8091ef5386a6ffbdd080f8e78cf7cb0cddd7b3"},
		{"404142434445464748494a4b4c4d4e4f", "10111213141516", from[:16], "20212223", 4, "7162015b4dac255d"},
		{"404142434445464748494a4b4c4d4e4f", "1011121314151617", from[:32], "202122232425262728292a2b2c2d2e2f", 6, "d2a1f0e051ea5f62081a7792073d593d1fc64fbfaccd"},
		{"404142434445464748494a4b4c4d4e4f", "101112131415161718191a1b", from[:40], "202122232425262728292a2b2c2d2e2f3031323334353637", 8, "e3b201a9f5b71a7a9b1ceaeccd97e70b6176aad9a4428aa5484392fbc1b09951"},
		{"f0910ed7295e6ad4b54fc793154302ff", "4622d4dd6d944168eefb549868", "8368456e63727970743040488501810a40411440", "01b3747631", 8, "612f1092f1776f1c1668b3825e"},
	} {
		if got := seal(t, hx(x.key), hx(x.nonce), hx(x.aad), hx(x.plain), x.tag); hex.EncodeToString(got) != x.want {
			t.Errorf("Seal with the nonce %s: %x, want %s", x.nonce, got, x.want)
		}
		if got := open(t, hx(x.key), hx(x.nonce), hx(x.aad), hx(x.want), x.tag); hex.EncodeToString(got) != x.plain {
			t.Errorf("Open with the nonce %s: %x, want %s", x.nonce, got, x.plain)
		}
	}
}

// P7.2, P7.3, P7.4: all lengths of a few blocks, and all parameters.
func TestLengths(t *testing.T) {
	r := rand.New(rand.NewSource(7))
	for aad := range 52 {
		for plain := range 52 {
			check(t, random(r, 16), random(r, 7+r.Intn(7)), random(r, aad), random(r, plain), 4+2*r.Intn(7))
		}
	}
	for nonce := 7; nonce <= 13; nonce++ {
		for tag := 4; tag <= 16; tag += 2 {
			for _, n := range []int{0, 1, 13, 14, 15, 16, 17, 32, 300} {
				check(t, random(r, 16), random(r, nonce), random(r, n), random(r, 20), tag)
				check(t, random(r, 16), random(r, nonce), random(r, 20), random(r, n), tag)
				check(t, random(r, 16), random(r, nonce), nil, random(r, n), tag)
			}
		}
	}
}

// P7.2, P7.3: lengths that need two bytes, and the longest.
func TestLong(t *testing.T) {
	r := rand.New(rand.NewSource(71))
	key := random(r, 16)
	for _, n := range []int{255, 256, 257, 2047, 4079, 4080, 4081, 4095, 4096} {
		check(t, key, random(r, 7+n%7), random(r, n), random(r, 5), 16)
		check(t, key, random(r, 7+n%7), random(r, 5), random(r, n), 4)
		check(t, key, random(r, 7+n%7), nil, random(r, n), 8)
	}
	for _, nonce := range []int{7, 10, 13} {
		check(t, key, random(r, nonce), random(r, api.MaxBytes), random(r, api.MaxBytes), 16)
	}
}

// P7.2, P7.3: parameters that are not valid, whatever else is wrong.
func TestArg(t *testing.T) {
	good, long := make([]byte, 64), make([]byte, 5000)
	for _, x := range [][3]int{
		{0, 13, 8}, {15, 13, 8}, {17, 13, 8}, {24, 13, 8}, {32, 13, 8}, {64, 13, 8},
		{16, 0, 8}, {16, 6, 8}, {16, 14, 8}, {16, 16, 8},
		{16, 13, 0}, {16, 13, 1}, {16, 13, 2}, {16, 13, 3}, {16, 13, 5}, {16, 13, 7}, {16, 13, 9}, {16, 13, 11}, {16, 13, 13}, {16, 13, 15},
		{16, 13, 17}, {16, 13, 18}, {16, 13, 32}, {16, 13, -4}, {16, 13, -8}, {16, 13, math.MinInt}, {16, 13, math.MaxInt}, {16, 13, math.MaxInt - 1},
	} {
		for _, aad := range [][]byte{nil, good, long} {
			for _, b := range [][]byte{nil, good[:3], good, long} {
				out, e := ccm.Seal(good[:x[0]], good[:x[1]], aad, b, x[2])
				refused(t, "Seal", api.ErrArg, out, e)
				out, e = ccm.Open(good[:x[0]], good[:x[1]], aad, b, x[2])
				refused(t, "Open", api.ErrArg, out, e)
			}
		}
	}
	out, e := ccm.Seal(nil, nil, nil, nil, 8)
	refused(t, "Seal", api.ErrArg, out, e)
	out, e = ccm.Open(nil, nil, nil, nil, 8)
	refused(t, "Open", api.ErrArg, out, e)
}

// P7.2, P7.3: one byte more than the limits, and many more.
func TestLimit(t *testing.T) {
	key, nonce := make([]byte, 16), make([]byte, 13)
	long := make([]byte, 1<<17)
	for tag := 4; tag <= 16; tag += 2 {
		for _, n := range []int{api.MaxBytes + 1, api.MaxBytes + 2, 1 << 16, 1 << 17} {
			for _, x := range [][2]int{{n, 0}, {n, 1}, {n, 100}, {n, api.MaxBytes}, {n, n}, {0, n}, {100, n}} {
				out, e := ccm.Seal(key, nonce, long[:x[0]], long[:x[1]], tag)
				refused(t, "Seal", api.ErrLimit, out, e)
			}
			for _, x := range [][2]int{{n, 0}, {n, tag - 1}, {n, tag}, {n, 100}, {n, n}} {
				out, e := ccm.Open(key, nonce, long[:x[0]], long[:x[1]], tag)
				refused(t, "Open", api.ErrLimit, out, e)
			}
		}
		out, e := ccm.Open(key, nonce, nil, long[:api.MaxBytes+tag+1], tag)
		refused(t, "Open of a byte too much", api.ErrLimit, out, e)
		out, e = ccm.Open(key, nonce, nil, long[:api.MaxBytes+tag], tag)
		refused(t, "Open of the longest", api.ErrAuth, out, e)
	}
}

// P7.3: fewer bytes than the tag has, be they the beginning of what was sealed or not.
func TestShort(t *testing.T) {
	r := rand.New(rand.NewSource(72))
	key, nonce, aad := random(r, 16), random(r, 12), random(r, 9)
	for tag := 4; tag <= 16; tag += 2 {
		c := seal(t, key, nonce, aad, nil, tag)
		for n := range tag {
			out, e := ccm.Open(key, nonce, aad, c[:n], tag)
			refused(t, "Open", api.ErrShort, out, e)
			out, e = ccm.Open(key, nonce, nil, make([]byte, n), tag)
			refused(t, "Open", api.ErrShort, out, e)
		}
		out, e := ccm.Open(key, nonce, aad, make([]byte, tag), tag)
		refused(t, "Open", api.ErrAuth, out, e)
		if got := open(t, key, nonce, aad, c, tag); len(got) != 0 {
			t.Errorf("nothing was sealed, and %d bytes are opened", len(got))
		}
	}
}

// changes calls f with b, each of whose bits is changed in turn, and which is a byte shorter and longer.
func changes(b []byte, f func([]byte)) {
	for i := range 8 * len(b) {
		b[i/8] ^= 1 << (i % 8)
		f(b)
		b[i/8] ^= 1 << (i % 8)
	}
	if len(b) > 0 {
		f(b[1:])
		f(b[:len(b)-1])
	}
	f(append([]byte{0}, b...))
	f(append(b[:len(b):len(b)], 0))
}

// P7.3, Consequences: what is opened with another key, nonce, aad or cipher is refused.
func TestChanged(t *testing.T) {
	r := rand.New(rand.NewSource(73))
	for _, x := range [][2]int{{0, 0}, {5, 0}, {0, 5}, {14, 16}, {15, 33}} {
		key, nonce, aad, plain := random(r, 16), random(r, 10), random(r, x[0]), random(r, x[1])
		const tag = 8
		c := seal(t, key, nonce, aad, plain, tag)
		refuse := func(name string, want api.Errno, key, nonce, aad, c []byte) {
			t.Helper()
			out, e := ccm.Open(key, nonce, aad, c, tag)
			refused(t, "Open with another "+name, want, out, e)
		}
		changes(key, func(b []byte) {
			want := api.ErrAuth
			if len(b) != 16 {
				want = api.ErrArg
			}
			refuse("key", want, b, nonce, aad, c)
		})
		changes(nonce, func(b []byte) { refuse("nonce", api.ErrAuth, key, b, aad, c) })
		changes(aad, func(b []byte) { refuse("aad", api.ErrAuth, key, nonce, b, c) })
		changes(c, func(b []byte) {
			want := api.ErrAuth
			if len(b) < tag {
				want = api.ErrShort
			}
			refuse("cipher", want, key, nonce, aad, b)
		})
		if got := open(t, key, nonce, aad, c, tag); !bytes.Equal(got, plain) {
			t.Errorf("Open: %x, want %x", got, plain)
		}
	}
}

// P7.3: each byte of each tag counts, and a tag of another length is another tag, not a beginning.
func TestTags(t *testing.T) {
	r := rand.New(rand.NewSource(74))
	key, nonce, aad, plain := random(r, 16), random(r, 13), random(r, 20), random(r, 40)
	for tag := 4; tag <= 16; tag += 2 {
		c := seal(t, key, nonce, aad, plain, tag)
		if len(c) != len(plain)+tag {
			t.Errorf("%d bytes are sealed as %d", len(plain), len(c))
		}
		for i := range c {
			b := slices.Clone(c)
			b[i] ^= 0xff
			out, e := ccm.Open(key, nonce, aad, b, tag)
			refused(t, "Open of a changed byte", api.ErrAuth, out, e)
		}
		for other := 4; other <= 16; other += 2 {
			if other != tag {
				out, e := ccm.Open(key, nonce, aad, c, other)
				refused(t, "Open with another tag", api.ErrAuth, out, e)
				b := append(slices.Clone(c), make([]byte, 16)...)
				out, e = ccm.Open(key, nonce, aad, b[:len(plain)+other], other)
				refused(t, "Open of another tag", api.ErrAuth, out, e)
			}
		}
	}
}

// Consequences: zero bytes behind an aad or a plain are not taken for those that fill the last block, and what is authenticated only is not taken for what is encrypted.
func TestBorders(t *testing.T) {
	key, nonce := make([]byte, 16), make([]byte, 11)
	seen := map[string]bool{}
	for aad := range 40 {
		for plain := range 40 {
			c := seal(t, key, nonce, make([]byte, aad), make([]byte, plain), 16)
			seen[string(c[plain:])] = true
		}
	}
	if len(seen) != 40*40 {
		t.Errorf("%d different tags, want %d", len(seen), 40*40)
	}
}

// Consequences: Open returns what was sealed, and a different plain always gives a different result.
func TestDifferent(t *testing.T) {
	r := rand.New(rand.NewSource(75))
	key, nonce, aad := random(r, 16), random(r, 13), random(r, 3)
	seen := map[string]bool{}
	for range 3000 {
		plain := random(r, r.Intn(4))
		seen[string(plain)] = true
		if got := open(t, key, nonce, aad, seal(t, key, nonce, aad, plain, 4), 4); !bytes.Equal(got, plain) {
			t.Errorf("Open of Seal: %x, want %x", got, plain)
		}
	}
	results := map[string]bool{}
	for plain := range seen {
		results[string(seal(t, key, nonce, aad, []byte(plain), 4))] = true
	}
	if len(results) != len(seen) {
		t.Errorf("%d plains, %d results", len(seen), len(results))
	}
}

// P7.4: numbers that were counted by hand, at the edges between numbers of blocks, and outside the limits.
func TestCalls(t *testing.T) {
	for _, x := range [][3]int{
		{8, 23, 7}, {0, 0, 2}, {1, 0, 3}, {14, 0, 3}, {15, 0, 4}, {30, 0, 4}, {31, 0, 5}, {0, 1, 4}, {0, 16, 4}, {0, 17, 6}, {0, 32, 6}, {0, 33, 8},
		{14, 16, 5}, {15, 17, 8}, {4094, 0, 258}, {4095, 0, 259}, {4096, 0, 259}, {0, 4080, 512}, {0, 4081, 514}, {0, 4096, 514}, {4096, 4096, 771},
		{-1, 0, 0}, {0, -1, 0}, {-1, -1, 0}, {-1, 100, 0}, {100, -1, 0}, {-16, 16, 0}, {16, -16, 0},
		{4097, 0, 0}, {0, 4097, 0}, {4097, 4097, 0}, {4097, 4096, 0}, {4096, 4097, 0}, {-1, 4097, 0}, {4097, -1, 0},
		{math.MinInt, 0, 0}, {0, math.MinInt, 0}, {math.MaxInt, 0, 0}, {0, math.MaxInt, 0}, {math.MaxInt, math.MaxInt, 0}, {1 << 32, 0, 0}, {0, 1 << 32, 0},
	} {
		if n := ccm.Calls(x[0], x[1]); n != x[2] {
			t.Errorf("Calls(%d, %d) = %d, want %d", x[0], x[1], n, x[2])
		}
	}
}

// P7.4: the parts of the number, for all lengths.
func TestCallsParts(t *testing.T) {
	for n := range api.MaxBytes + 1 {
		aad := 0
		if n > 0 {
			aad = (2 + n + 15) / 16
		}
		plain := 2 * ((n + 15) / 16)
		for _, x := range [][3]int{{n, 0, 2 + aad}, {0, n, 2 + plain}, {n, n, 2 + aad + plain}, {n, 1, 4 + aad}, {1, n, 3 + plain}} {
			if got := ccm.Calls(x[0], x[1]); got != x[2] {
				t.Errorf("Calls(%d, %d) = %d, want %d", x[0], x[1], got, x[2])
			}
		}
	}
}

// R2: no bytes are an empty slice; arguments are not changed, nor is what stands behind them, even if all of them share memory.
func TestArguments(t *testing.T) {
	key, nonce, empty := make([]byte, 16), make([]byte, 13), []byte{}
	c := seal(t, key, nonce, nil, nil, 8)
	if !bytes.Equal(c, seal(t, key, nonce, empty, empty, 8)) || len(open(t, key, nonce, empty, c, 8)) != 0 || len(open(t, key, nonce, nil, c, 8)) != 0 {
		t.Error("nil and an empty slice differ")
	}
	r := rand.New(rand.NewSource(76))
	all := random(r, 300)
	before := slices.Clone(all)
	for n := range 100 {
		sealed := seal(t, all[:16], all[16:16+7+n%7], all[:n], all[10:10+n], 4+2*(n%7))
		want, _ := defined(before[:16], before[16:16+7+n%7], before[:n], before[10:10+n], 4+2*(n%7))
		if !bytes.Equal(sealed, want) {
			t.Errorf("Seal of shared memory: %x, want %x", sealed, want)
		}
		long := append(slices.Clone(sealed), all...)
		kept := slices.Clone(long)
		open(t, all[:16], all[16:16+7+n%7], all[:n], long[:len(sealed)], 4+2*(n%7))
		ccm.Open(all[:16], all[16:16+7+n%7], all[:n], all[:n+16], 16)
		if !bytes.Equal(long, kept) {
			t.Error("a cipher was changed")
		}
	}
	if !bytes.Equal(all, before) {
		t.Error("an argument was changed")
	}
}

// R2: results are new memory.
func TestResults(t *testing.T) {
	r := rand.New(rand.NewSource(77))
	key, nonce, aad, plain := random(r, 16), random(r, 13), random(r, 20), random(r, 40)
	c := seal(t, key, nonce, aad, plain, 8)
	for name, get := range map[string]func() []byte{
		"Seal": func() []byte { return seal(t, key, nonce, aad, plain, 8) },
		"Open": func() []byte { return open(t, key, nonce, aad, c, 8) },
	} {
		first, second := get(), get()
		kept := slices.Clone(first)
		clear(first[:cap(first)])
		if !bytes.Equal(second, kept) || !bytes.Equal(get(), kept) {
			t.Errorf("results of %s share memory", name)
		}
		plain[0]++
		c[0]++
		if !bytes.Equal(second, kept) {
			t.Errorf("a result of %s shares memory with an argument", name)
		}
		plain[0]--
		c[0]--
	}
}
