package key_test

import (
	"bytes"
	"crypto/sha256"
	"encoding/hex"
	"math"
	"slices"
	"testing"

	"coresec/api"
	"coresec/key"
)

// bytesOf returns the bytes of hexadecimal digits.
func bytesOf(s string) []byte {
	b, err := hex.DecodeString(s)
	if err != nil {
		panic(err)
	}
	return b
}

// thumb returns the hash of what the thumbprint of a valid key with a public part, or a secret, is made of.
func thumb(k api.Key) []byte {
	b := slices.Concat([]byte{0xa3, 0x01, 0x01, 0x20, byte(k.Crv), 0x21, 0x58, 0x20}, k.X)
	if k.Kty == 4 {
		b = code(sym(k.K))
	}
	h := sha256.Sum256(b)
	return h[:]
}

// P11.1, P11.3, P11.4: every combination of types, curves and lengths, valid or not.
func TestGrid(t *testing.T) {
	count := 0
	grid(func(k api.Key) {
		check(t, k)
		if isValid(k) {
			count++
		}
	})
	// 2 curves with 3 ways to have parts, and 5 lengths of secrets.
	if count != 2*3+5 {
		t.Errorf("%d valid keys", count)
	}
	for _, k := range valids() {
		check(t, k)
	}
}

// P11.1: the limits of identifiers and algorithms, with keys of each kind.
func TestLimits(t *testing.T) {
	for _, k := range []api.Key{okp(4, fill(1, 32), nil), okp(6, nil, fill(2, 32)), sym(fill(3, 16))} {
		for n := range 20 {
			check(t, named(k, fill(4, n), 0))
			if got := key.Valid(named(k, fill(4, n), 0)); got != (n <= 16) {
				t.Errorf("Valid with an identifier of %d bytes: %v", n, got)
			}
		}
		for _, alg := range []int{-65536, -65535, 0, 65534, 65535} {
			if check(t, named(k, nil, alg)); !key.Valid(named(k, nil, alg)) {
				t.Errorf("Valid with the algorithm %d: false", alg)
			}
		}
		for _, alg := range []int{math.MinInt, math.MinInt32, -65538, -65537, 65536, 65537, 1 << 32, 1<<32 + 1, math.MaxInt} {
			if check(t, named(k, nil, alg)); key.Valid(named(k, nil, alg)) {
				t.Errorf("Valid with the algorithm %d: true", alg)
			}
		}
	}
}

// P11.1: each length of each part.
func TestLengths(t *testing.T) {
	for n := range 300 {
		b := fill(byte(n), n)
		if got := key.Valid(sym(b)); got != (n >= 1 && n <= 64) {
			t.Errorf("Valid of a secret of %d bytes: %v", n, got)
		}
		for _, crv := range []int{4, 6} {
			full := fill(1, 32)
			alone, beside := n == 32, n == 0 || n == 32
			if x, d := key.Valid(okp(crv, b, nil)), key.Valid(okp(crv, nil, b)); x != alone || d != alone {
				t.Errorf("Valid of one part of %d bytes: %v, %v", n, x, d)
			}
			if x, d := key.Valid(okp(crv, b, full)), key.Valid(okp(crv, full, b)); x != beside || d != beside {
				t.Errorf("Valid of a second part of %d bytes: %v, %v", n, x, d)
			}
		}
		check(t, sym(b))
		check(t, okp(4, b, fill(1, 32)))
		check(t, okp(6, fill(1, 32), b))
	}
}

// P11.3: the order of the errors: keys that are neither valid nor suitable.
func TestErrorsInOrder(t *testing.T) {
	for _, x := range []struct {
		name          string
		k             api.Key
		public, thumb api.Errno
	}{
		{"symmetric", sym(fill(1, 16)), api.ErrKey, api.OK},
		{"symmetric, not valid", named(sym(fill(1, 16)), fill(1, 17), 0), api.ErrArg, api.ErrArg},
		{"symmetric, with a public part", api.Key{Kty: 4, K: fill(1, 16), X: fill(1, 32)}, api.ErrArg, api.ErrArg},
		{"private", okp(4, nil, fill(1, 32)), api.ErrKey, api.ErrKey},
		{"private, not valid", named(okp(6, nil, fill(1, 32)), nil, 65536), api.ErrArg, api.ErrArg},
		{"no part", okp(4, nil, nil), api.ErrArg, api.ErrArg},
		{"zero", api.Key{}, api.ErrArg, api.ErrArg},
		{"public", okp(6, fill(1, 32), nil), api.OK, api.OK},
	} {
		if _, e := key.Public(x.k); e != x.public {
			t.Errorf("Public, %s: error %d, want %d", x.name, e, x.public)
		}
		if _, e := key.Thumb(x.k); e != x.thumb {
			t.Errorf("Thumb, %s: error %d, want %d", x.name, e, x.thumb)
		}
	}
}

// P11.3: the public key of a public key is this key.
func TestPublicTwice(t *testing.T) {
	for _, k := range valids() {
		p, e := key.Public(k)
		if e != api.OK {
			continue
		}
		if q, e := key.Public(p); e != api.OK || !equal(p, q) {
			t.Errorf("Public(%v): %v, error %d", p, q, e)
		}
	}
}

// P11.4: hashes that were calculated by other means from the bytes of the maps.
func TestKnownThumbs(t *testing.T) {
	x := bytesOf("d75a980182b10ab7d54bfed3c964073a0ee172f3daa62325af021a68f707511a")
	for _, c := range []struct {
		k    api.Key
		want string
	}{
		{okp(6, x, nil), "866eefbd6718c8846cd7ddfe43fc74ab1daac4538ff8514ea2ec2d410a415743"},
		{okp(4, x, nil), "06e19f526192e392c8536052c77baffadc41afe7f37631ccd8996a7f8560b1dc"},
		{sym([]byte{1, 2}), "fdabf6812f115678f230e5578c7775a7fc4319c050cb3958cd6474a82701d32e"},
		{sym(fill(0, 32)), "2a0ee310a4a38f70335345970b3ddcc56de0a6ed4018e346e43e6b19f586f5d9"},
	} {
		if h, e := key.Thumb(c.k); e != api.OK || !bytes.Equal(h, bytesOf(c.want)) {
			t.Errorf("Thumb(%v): %x, error %d, want %s", c.k, h, e, c.want)
		}
	}
}

// P11.4, Consequences: what does not change a thumbprint, and what does.
func TestThumbDependsOn(t *testing.T) {
	seen := map[string]string{}
	for _, k := range valids() {
		h, e := key.Thumb(k)
		if e != api.OK {
			continue
		}
		if p, e := key.Public(k); e == api.OK {
			if g, e := key.Thumb(p); e != api.OK || !bytes.Equal(g, h) {
				t.Errorf("Thumb of the public key of %v: %x, error %d, want %x", k, g, e, h)
			}
		}
		// Kty, Crv and what others know of the key, or the secret.
		what := string(slices.Concat([]byte{byte(k.Kty), byte(k.Crv)}, k.X, k.K))
		if before, ok := seen[string(h)]; ok && before != what {
			t.Errorf("Thumb(%v): %x, that of another key", k, h)
		}
		seen[string(h)] = what
	}
	if len(seen) != 2*3+8 {
		t.Errorf("%d thumbprints", len(seen))
	}
}
