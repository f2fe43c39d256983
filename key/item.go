package key

import (
	"bytes"

	"coresec/api"
	"coresec/cbor"
)

// Labels of the item of a key.
const (
	labelKty = 1
	labelKid = 2
	labelAlg = 3
	labelCrv = -1
	labelX   = -2
	labelD   = -4
	labelK   = -1 // that of the curve: there, it is a number, and here a byte string
)

// ToItem returns the item of k.
func ToItem(k api.Key) (api.Item, api.Errno) {
	if !Valid(k) {
		return api.Item{}, api.ErrArg
	}
	pairs := []api.Item{cbor.Int(labelKty), cbor.Int(k.Kty)}
	addNumber := func(label, n int) {
		if n != 0 {
			pairs = append(pairs, cbor.Int(label), cbor.Int(n))
		}
	}
	addBytes := func(label int, b []byte) {
		if len(b) > 0 {
			pairs = append(pairs, cbor.Int(label), cbor.Bytes(b))
		}
	}
	addBytes(labelKid, k.Kid)
	addNumber(labelAlg, k.Alg)
	// In a valid key either Crv is 0 or K is empty.
	addNumber(labelCrv, k.Crv)
	addBytes(labelK, k.K)
	addBytes(labelX, k.X)
	addBytes(labelD, k.D)
	return cbor.Build(pairs)
}

// FromItem returns the key whose item is x.
func FromItem(x api.Item) (api.Key, api.Errno) {
	if !cbor.Valid(x) {
		return api.Key{}, api.ErrArg
	}
	if x.Kind != api.KindMap {
		return api.Key{}, api.ErrKey
	}
	// Whatever x contains that the key does not tell of is missing in the item of the key.
	k := read(x)
	y, e := ToItem(k)
	if e != api.OK || cbor.Cmp(x, y) != 0 {
		return api.Key{}, api.ErrKey
	}
	return k, api.OK
}

// read returns the key whose item is the map x, or any other if there is none.
func read(x api.Item) api.Key {
	values := map[int]api.Item{}
	for i := 0; i < len(x.Items); i += 2 {
		values[number(x.Items[i])] = x.Items[i+1]
	}
	takeNumber := func(label int) int { return number(values[label]) }
	takeBytes := func(label int) []byte { return bytes.Clone(values[label].Bytes) }
	return api.Key{
		Kty: takeNumber(labelKty),
		Crv: takeNumber(labelCrv),
		Alg: takeNumber(labelAlg),
		Kid: takeBytes(labelKid),
		X:   takeBytes(labelX),
		D:   takeBytes(labelD),
		K:   takeBytes(labelK),
	}
}

// number returns n for cbor.Int(n), any number for those that no int holds, and 0 for all other items.
func number(x api.Item) int {
	switch x.Kind {
	case api.KindUint:
		return int(x.N)
	case api.KindNint:
		return ^int(x.N)
	}
	return 0
}

// Encode returns the encoding of the item of k.
func Encode(k api.Key) ([]byte, api.Errno) {
	x, e := ToItem(k)
	if e != api.OK {
		return nil, e
	}
	return cbor.Encode(x)
}

// Decode returns the key of which b is the encoding.
func Decode(b []byte) (api.Key, api.Errno) {
	x, e := cbor.Decode(b)
	if e != api.OK {
		return api.Key{}, e
	}
	return FromItem(x)
}
