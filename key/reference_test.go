package key_test

import (
	"bytes"
	"math"
	"slices"
	"testing"

	"coresec/api"
	"coresec/key"
)

// okp returns a key of the curve with these parts.
func okp(crv int, x, d []byte) api.Key { return api.Key{Kty: api.KtyOKP, Crv: crv, X: x, D: d} }

// sym returns the key with this secret.
func sym(k []byte) api.Key { return api.Key{Kty: api.KtySym, K: k} }

// named returns k with an identifier and an algorithm.
func named(k api.Key, kid []byte, alg int) api.Key {
	k.Kid, k.Alg = kid, alg
	return k
}

// fill returns n bytes, the first of which is first.
func fill(first byte, n int) []byte {
	out := make([]byte, n)
	for i := range out {
		out[i] = first + byte(i)
	}
	return out
}

// isValid is the definition of the chapter, by lists of what may be.
func isValid(k api.Key) bool {
	if len(k.Kid) > 16 || k.Alg < -65536 || k.Alg > 65535 {
		return false
	}
	x, d, s := len(k.X), len(k.D), len(k.K)
	switch [2]int{k.Kty, k.Crv} {
	case [2]int{1, 4}, [2]int{1, 6}:
		return s == 0 && slices.Contains([][2]int{{32, 0}, {0, 32}, {32, 32}}, [2]int{x, d})
	case [2]int{4, 0}:
		return x == 0 && d == 0 && s > 0 && s < 65
	}
	return false
}

// code returns the encoding of the item of a valid key, without package cbor.
func code(k api.Key) []byte {
	var pairs [][]byte
	add := func(label byte, head, rest []byte) { pairs = append(pairs, slices.Concat([]byte{label}, head, rest)) }
	add(0x01, []byte{byte(k.Kty)}, nil)
	if len(k.Kid) > 0 {
		add(0x02, []byte{0x40 + byte(len(k.Kid))}, k.Kid)
	}
	if k.Alg != 0 {
		add(0x03, algorithm(k.Alg), nil)
	}
	if k.Kty == 1 {
		add(0x20, []byte{byte(k.Crv)}, nil)
	}
	if k.Kty == 4 && len(k.K) < 24 {
		add(0x20, []byte{0x40 + byte(len(k.K))}, k.K)
	}
	if k.Kty == 4 && len(k.K) >= 24 {
		add(0x20, []byte{0x58, byte(len(k.K))}, k.K)
	}
	if len(k.X) > 0 {
		add(0x21, []byte{0x58, 32}, k.X)
	}
	if len(k.D) > 0 {
		add(0x23, []byte{0x58, 32}, k.D)
	}
	return append([]byte{0xa0 + byte(len(pairs))}, bytes.Join(pairs, nil)...)
}

// algorithm returns the encoding of the number alg, which needs at most two bytes.
func algorithm(alg int) []byte {
	major := byte(0)
	if alg < 0 {
		major, alg = 0x20, -1-alg
	}
	switch {
	case alg < 24:
		return []byte{major + byte(alg)}
	case alg < 256:
		return []byte{major + 24, byte(alg)}
	}
	return []byte{major + 25, byte(alg >> 8), byte(alg)}
}

// equal compares keys; nil and empty slices are equivalent.
func equal(a, b api.Key) bool {
	return a.Kty == b.Kty && a.Crv == b.Crv && a.Alg == b.Alg &&
		bytes.Equal(a.Kid, b.Kid) && bytes.Equal(a.X, b.X) && bytes.Equal(a.D, b.D) && bytes.Equal(a.K, b.K)
}

// clone returns a key that shares no memory with k.
func clone(k api.Key) api.Key {
	k.Kid, k.X, k.D, k.K = bytes.Clone(k.Kid), bytes.Clone(k.X), bytes.Clone(k.D), bytes.Clone(k.K)
	return k
}

// grid calls f with keys of all kinds, most of which are not valid.
func grid(f func(api.Key)) {
	numbers := []int{math.MinInt, -4, -1, 0, 1, 2, 3, 4, 5, 6, 7, math.MaxInt}
	parts := [][]byte{nil, fill(1, 1), fill(2, 31), fill(3, 32), fill(4, 33), fill(5, 64)}
	secrets := [][]byte{nil, fill(6, 1), fill(7, 23), fill(8, 24), fill(9, 32), fill(10, 64), fill(11, 65), fill(12, 256+1)}
	for _, kty := range numbers {
		for _, crv := range numbers {
			for _, x := range parts {
				for _, d := range parts {
					for _, s := range secrets {
						f(api.Key{Kty: kty, Crv: crv, X: x, D: d, K: s})
					}
				}
			}
		}
	}
}

// valids returns valid keys of all kinds.
func valids() []api.Key {
	var out []api.Key
	add := func(k api.Key) {
		for _, kid := range [][]byte{nil, {0}, fill(20, 15), fill(30, 16)} {
			for _, alg := range []int{0, 1, -1, api.AlgEdDSA, api.AlgCCM8, 23, -24, 24, -25, 255, -256, 256, -257, 65535, -65536} {
				out = append(out, named(k, kid, alg))
			}
		}
	}
	for _, crv := range []int{api.CrvX25519, api.CrvEd25519} {
		add(okp(crv, fill(1, 32), nil))
		add(okp(crv, nil, fill(2, 32)))
		add(okp(crv, fill(3, 32), fill(4, 32)))
		add(okp(crv, make([]byte, 32), bytes.Repeat([]byte{255}, 32)))
	}
	for _, n := range []int{1, 2, 16, 23, 24, 32, 63, 64} {
		add(sym(fill(5, n)))
	}
	return out
}

// check compares all that the functions tell of k with the chapter; all but Pair, which takes longer.
func check(t *testing.T, k api.Key) {
	t.Helper()
	want := isValid(k)
	if got := key.Valid(k); got != want {
		t.Errorf("Valid(%v): %v", k, got)
	}
	x, e := key.ToItem(k)
	checkErrno(t, "ToItem", k, e, want, true)
	b, e := key.Encode(k)
	checkErrno(t, "Encode", k, e, want, true)
	if !want {
		if x.Kind != 0 || x.N != 0 || len(x.Bytes) != 0 || len(x.Items) != 0 || len(b) != 0 {
			t.Errorf("results beside an error: %v, %x", x, b)
		}
	} else if !bytes.Equal(b, code(k)) {
		t.Errorf("Encode(%v): %x, want %x", k, b, code(k))
	}
	p, e := key.Public(k)
	checkErrno(t, "Public", k, e, want, len(k.X) == 32)
	if want := named(okp(k.Crv, k.X, nil), k.Kid, k.Alg); e == api.OK && !equal(p, want) || e != api.OK && !equal(p, api.Key{}) {
		t.Errorf("Public(%v): %v", k, p)
	}
	h, e := key.Thumb(k)
	checkErrno(t, "Thumb", k, e, want, k.Kty == 4 || len(k.X) == 32)
	if e == api.OK && !bytes.Equal(h, thumb(k)) || e != api.OK && len(h) != 0 {
		t.Errorf("Thumb(%v): %x", k, h)
	}
}

// checkErrno tells of an error that is not ErrArg for keys that are not valid, or ErrKey for those that are not suitable.
func checkErrno(t *testing.T, name string, k api.Key, got api.Errno, valid, suitable bool) {
	t.Helper()
	want := api.OK
	if !suitable {
		want = api.ErrKey
	}
	if !valid {
		want = api.ErrArg
	}
	if got != want {
		t.Errorf("%s(%v): error %d, want %d", name, k, got, want)
	}
}
