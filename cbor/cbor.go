// Package cbor is layer 1: deterministic data items. See doc/01-cbor.md.
package cbor

import (
	"bytes"
	"slices"

	"coresec/api"
)

func Cmp(a, b api.Item) int {
	x, e := Encode(a)
	if e != api.OK {
		return 0
	}
	y, e := Encode(b)
	if e != api.OK {
		return 0
	}
	return bytes.Compare(x, y)
}

// pair keeps the encoding of its key, so that sorting encodes each key only once.
type pair struct {
	code       []byte
	key, value api.Item
}

func Build(pairs []api.Item) (api.Item, api.Errno) {
	list, e := encodeKeys(pairs)
	if e != api.OK {
		return api.Item{}, e
	}
	slices.SortFunc(list, func(a, b pair) int { return bytes.Compare(a.code, b.code) })
	m := api.Item{Kind: api.KindMap}
	for i, p := range list {
		if i > 0 && bytes.Equal(p.code, list[i-1].code) {
			return api.Item{}, api.ErrExists
		}
		m.Items = append(m.Items, p.key, p.value)
	}
	// The elements are valid and the keys ascend: only a limit can fail.
	if !Valid(m) {
		return api.Item{}, api.ErrLimit
	}
	return clone(m), api.OK
}

func encodeKeys(items []api.Item) ([]pair, api.Errno) {
	if len(items)%2 != 0 {
		return nil, api.ErrArg
	}
	var list []pair
	for i := 0; i < len(items); i += 2 {
		code, e := Encode(items[i])
		if e != api.OK || !Valid(items[i+1]) {
			return nil, api.ErrArg
		}
		list = append(list, pair{code, items[i], items[i+1]})
	}
	return list, api.OK
}

func Find(m, key api.Item) (api.Item, bool) {
	want, e := Encode(key)
	if e != api.OK || m.Kind != api.KindMap || !Valid(m) {
		return api.Item{}, false
	}
	for i := 0; i < len(m.Items); i += 2 {
		if code, _ := Encode(m.Items[i]); bytes.Equal(code, want) {
			return clone(m.Items[i+1]), true
		}
	}
	return api.Item{}, false
}

func Uint(n uint64) api.Item { return api.Item{Kind: api.KindUint, N: n} }

func Int(n int) api.Item {
	if n >= 0 {
		return Uint(uint64(n))
	}
	// -1 - n, which a negation could not give for the least int.
	return api.Item{Kind: api.KindNint, N: ^uint64(n)}
}

func Bytes(b []byte) api.Item { return api.Item{Kind: api.KindBytes, Bytes: bytes.Clone(b)} }

func Text(s string) api.Item { return api.Item{Kind: api.KindText, Bytes: []byte(s)} }

func Array(l ...api.Item) api.Item { return api.Item{Kind: api.KindArray, Items: cloneAll(l)} }

func clone(x api.Item) api.Item {
	return api.Item{Kind: x.Kind, N: x.N, Bytes: bytes.Clone(x.Bytes), Items: cloneAll(x.Items)}
}

func cloneAll(l []api.Item) []api.Item {
	out := make([]api.Item, len(l))
	for i, x := range l {
		out[i] = clone(x)
	}
	return out
}
