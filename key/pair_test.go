package key_test

import (
	"bytes"
	"crypto/ecdh"
	"crypto/ed25519"
	"math/big"
	"math/rand"
	"slices"
	"testing"

	"coresec/api"
	"coresec/key"
)

// standard returns what the standard library derives from a private part.
func standard(t *testing.T, crv int, d []byte) []byte {
	t.Helper()
	if crv == api.CrvEd25519 {
		return ed25519.NewKeyFromSeed(d).Public().(ed25519.PublicKey)
	}
	k, err := ecdh.X25519().NewPrivateKey(d)
	if err != nil {
		t.Fatal(err)
	}
	return k.PublicKey().Bytes()
}

// pair compares Pair with what it has to report.
func pair(t *testing.T, name string, k api.Key, want bool) {
	t.Helper()
	if got := key.Pair(k); got != want {
		t.Errorf("Pair(%v), %s: %v", k, name, got)
	}
}

// P11.5: published keys (RFC 7748, section 6.1, and RFC 8032, section 7.1).
func TestPublishedPairs(t *testing.T) {
	for _, c := range []struct {
		crv  int
		d, x string
	}{
		{4, "77076d0a7318a57d3c16c17251b26645df4c2f87ebc0992ab177fba51db92c2a", "8520f0098930a754748b7ddcb43ef75a0dbf3a0d26381af4eba4a98eaa9b4e6a"},
		{4, "5dab087e624a8a4b79e17f8b83800ee66f3bb1292618b6fd1c2f8b27ff88e0eb", "de9edb7d7b7dc1b4d35b61c2ece435373f8343c85b78674dadfc7e146f882b4f"},
		{6, "9d61b19deffd5a60ba844af492ec2cc44449c5697b326919703bac031cae7f60", "d75a980182b10ab7d54bfed3c964073a0ee172f3daa62325af021a68f707511a"},
		{6, "4ccd089b28ff96da9db6c346ec114e0f5b8a319f35aba624da8cf6ed4fb8a6fb", "3d4017c3e843895a92b70aa74d1b7ebc9c982ccf2ec4968cc0cd55f12af4660c"},
	} {
		pair(t, "published", okp(c.crv, bytesOf(c.x), bytesOf(c.d)), true)
		pair(t, "of the other curve", okp(10-c.crv, bytesOf(c.x), bytesOf(c.d)), false)
	}
}

// P11.5: pairs of the standard library, and what is not a pair.
func TestPair(t *testing.T) {
	r := rand.New(rand.NewSource(11))
	for range 20 {
		d, other := make([]byte, 32), make([]byte, 32)
		r.Read(d)
		r.Read(other)
		for _, crv := range []int{4, 6} {
			x := standard(t, crv, d)
			pair(t, "a pair", okp(crv, x, d), true)
			pair(t, "with a name", named(okp(crv, x, d), fill(1, 16), -65536), true)
			pair(t, "of the other curve", okp(10-crv, x, d), false)
			pair(t, "another private part", okp(crv, x, other), false)
			pair(t, "another public part", okp(crv, standard(t, crv, other), d), false)
			pair(t, "exchanged", okp(crv, d, x), false)
			pair(t, "twice the private part", okp(crv, d, d), false)
			pair(t, "no private part", okp(crv, x, nil), false)
			pair(t, "no public part", okp(crv, nil, d), false)
			pair(t, "no part", okp(crv, nil, nil), false)
			pair(t, "symmetric", sym(d), false)
		}
	}
}

// P11.5: a pair in a key that is not valid.
func TestPairNotValid(t *testing.T) {
	d := fill(1, 32)
	for _, crv := range []int{4, 6} {
		x := standard(t, crv, d)
		k := okp(crv, x, d)
		pair(t, "valid", k, true)
		pair(t, "long identifier", named(k, fill(1, 17), 0), false)
		pair(t, "great algorithm", named(k, nil, 65536), false)
		pair(t, "small algorithm", named(k, nil, -65537), false)
		pair(t, "a secret, too", api.Key{Kty: 1, Crv: crv, X: x, D: d, K: d}, false)
		for _, kty := range []int{0, 2, 3, 4, -1} {
			pair(t, "another type", api.Key{Kty: kty, Crv: crv, X: x, D: d}, false)
		}
		for _, other := range []int{0, 1, 5, 7, -4} {
			pair(t, "another curve", okp(other, x, d), false)
		}
		pair(t, "a short private part", okp(crv, x, d[:31]), false)
		pair(t, "a long private part", okp(crv, x, fill(1, 33)), false)
		pair(t, "a short public part", okp(crv, x[:31], d), false)
		pair(t, "a long public part", okp(crv, append(slices.Clone(x), 0), d), false)
	}
	pair(t, "zero", api.Key{}, false)
}

// P11.5: each bit of each part. Clamping leaves five bits of a private part for X25519 without effect.
func TestPairBits(t *testing.T) {
	ignored := []int{0, 1, 2, 254, 255}
	d := fill(100, 32)
	for _, crv := range []int{4, 6} {
		x := standard(t, crv, d)
		for bit := range 256 {
			y, e := slices.Clone(x), slices.Clone(d)
			y[bit/8] ^= 1 << (bit % 8)
			e[bit/8] ^= 1 << (bit % 8)
			pair(t, "public bit", okp(crv, y, d), false)
			pair(t, "private bit", okp(crv, x, e), crv == 4 && slices.Contains(ignored, bit))
		}
	}
}

// P11.5: the public part has to be the bytes that Public returns, not others of the same number or the same point.
func TestPairOtherForms(t *testing.T) {
	p := new(big.Int).Sub(new(big.Int).Lsh(big.NewInt(1), 255), big.NewInt(19))
	for i := range 10 {
		d := fill(byte(i), 32)
		x := standard(t, 4, d)
		pair(t, "a pair", okp(4, x, d), true)
		high := slices.Clone(x)
		high[31] |= 128 // ignored by montgomery.Shared
		pair(t, "with bit 255", okp(4, high, d), false)
		n := new(big.Int).Add(number(x), p)
		pair(t, "not reduced", okp(4, little(n), d), false)
		x = standard(t, 6, d)
		x[31] ^= 128
		pair(t, "the negative point", okp(6, x, d), false)
	}
}

// number returns the number of the bytes b, the least significant one first.
func number(b []byte) *big.Int {
	b = bytes.Clone(b)
	slices.Reverse(b)
	return new(big.Int).SetBytes(b)
}

// little is the inverse of number, for 32 bytes.
func little(n *big.Int) []byte {
	b := n.FillBytes(make([]byte, 32))
	slices.Reverse(b)
	return b
}
