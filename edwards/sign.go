package edwards

import (
	"slices"

	"coresec/api"
	"coresec/field"
	"coresec/sha"
)

const numberBytes = 32 // of a seed, of a public key and of each half of a signature

// Public returns the key with which others verify what the owner of the seed signs.
func Public(seed []byte) ([]byte, api.Errno) {
	if len(seed) != numberBytes {
		return nil, api.ErrArg
	}
	s, _ := secret(seed)
	out := encode(multiple(s, base()))
	return out[:], api.OK
}

// Sign returns the signature of message by the owner of the seed.
func Sign(seed, message []byte) ([]byte, api.Errno) {
	if len(seed) != numberBytes {
		return nil, api.ErrArg
	}
	s, prefix := secret(seed)
	r := hashed(prefix, message)
	public, first := encode(multiple(s, base())), encode(multiple(r, base()))
	second := field.MulAdd(hashed(first[:], public[:], message), s, r)
	return slices.Concat(first[:], second[:]), api.OK
}

// Verify reports whether signature is one of message by the owner of the seed of public.
func Verify(public, message, signature []byte) bool {
	if len(public) != numberBytes || len(signature) != 2*numberBytes {
		return false
	}
	a, ok := decode(read(public))
	if !ok || small(a) {
		return false
	}
	first, s := read(signature), read(signature[numberBytes:])
	if s != number(s[:]) { // S is not less than q
		return false
	}
	k := hashed(signature[:numberBytes], public, message)
	return first == encode(add(multiple(s, base()), multiple(k, negative(a))))
}

// secret returns the secret number of a seed, and its prefix.
func secret(seed []byte) (s api.Field, prefix []byte) {
	h := sha.Sum512(seed)
	return clamp(read(h)), h[numberBytes:]
}

// clamp is that of layer 9.
func clamp(k api.Field) api.Field {
	k[0] &^= 7
	k[31] = k[31]&127 | 64
	return k
}

// hashed returns the hash of all parts together, modulo q.
func hashed(parts ...[]byte) api.Field { return number(sha.Sum512(slices.Concat(parts...))) }

// number returns the number of the bytes b, of which there are 64 at most, modulo q.
func number(b []byte) api.Field {
	out, _ := field.Wide(b)
	return out
}

// read returns the number of the first bytes of b, of which there are enough.
func read(b []byte) api.Field {
	var out api.Field
	copy(out[:], b)
	return out
}
