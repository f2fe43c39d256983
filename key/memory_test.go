package key_test

import (
	"bytes"
	"testing"

	"coresec/api"
	"coresec/cbor"
	"coresec/key"
)

// spoil overwrites the slices of k, up to their capacities.
func spoil(k api.Key) {
	for _, b := range [][]byte{k.Kid, k.X, k.D, k.K} {
		overwrite(b)
	}
}

func overwrite(b []byte) {
	b = b[:cap(b)]
	for i := range b {
		b[i] ^= 0xff
	}
}

// spoilItem overwrites the slices of x and of what it contains.
func spoilItem(x api.Item) {
	overwrite(x.Bytes)
	for i, y := range x.Items {
		spoilItem(y)
		x.Items[i] = api.Item{Kind: 9}
	}
}

// apart tells of slices of a key that share memory: each of them is overwritten, and the others have to stay as they are.
func apart(t *testing.T, k api.Key) {
	t.Helper()
	parts := [][]byte{k.Kid, k.X, k.D, k.K}
	for i, b := range parts {
		before := clone(k)
		overwrite(b)
		for j, c := range [][]byte{before.Kid, before.X, before.D, before.K} {
			if i != j && !bytes.Equal(parts[j], c) {
				t.Errorf("slices of %v share memory", before)
			}
		}
		overwrite(b)
	}
}

// R2: what is done with results and arguments afterwards changes neither of them.
func TestMemory(t *testing.T) {
	for _, k := range valids() {
		before := clone(k)
		if p, e := key.Public(k); e == api.OK {
			apart(t, p)
			spoil(p)
		}
		x, _ := key.ToItem(k)
		spoilItem(x)
		b, _ := key.Encode(k)
		overwrite(b)
		h, _ := key.Thumb(k)
		overwrite(h)
		key.Valid(k)
		if !equal(k, before) {
			t.Fatalf("%v has become %v", before, k)
		}

		x, _ = key.ToItem(k)
		want, _ := cbor.Encode(x)
		p, e := key.Public(k)
		public := clone(p)
		spoil(k)
		if got, _ := cbor.Encode(x); !bytes.Equal(got, want) {
			t.Errorf("ToItem keeps %v", before)
		}
		if e == api.OK && !equal(p, public) {
			t.Errorf("Public keeps %v", before)
		}
		spoil(k)
	}
}

// R2: the same for items and bytes that are read.
func TestMemoryOfItems(t *testing.T) {
	for _, k := range valids() {
		x, _ := key.ToItem(k)
		want, _ := cbor.Encode(x)
		got, _ := key.FromItem(x)
		apart(t, got)
		spoil(got)
		if b, _ := cbor.Encode(x); !bytes.Equal(b, want) {
			t.Fatalf("FromItem changes %x to %x", want, b)
		}
		got, _ = key.FromItem(x)
		spoilItem(x)
		if !equal(got, k) {
			t.Errorf("FromItem keeps the item of %v", k)
		}
		b := bytes.Clone(want)
		got, _ = key.Decode(b)
		apart(t, got)
		spoil(got)
		if !bytes.Equal(b, want) {
			t.Fatalf("Decode changes %x to %x", want, b)
		}
		got, _ = key.Decode(b)
		overwrite(b)
		if !equal(got, k) {
			t.Errorf("Decode keeps the bytes of %v", k)
		}
	}
}

// R2: arguments of which slices share memory.
func TestSharedArguments(t *testing.T) {
	b := fill(1, 32)
	k := named(okp(4, b, b), b[:16], 0)
	p, e := key.Public(k)
	if e != api.OK {
		t.Fatalf("Public(%v): error %d", k, e)
	}
	apart(t, p)
	part := cbor.Bytes(b)
	x := api.Item{Kind: api.KindMap, Items: []api.Item{cbor.Int(1), cbor.Int(1), cbor.Int(2), {Kind: api.KindBytes, Bytes: part.Bytes[:16]}, cbor.Int(-1), cbor.Int(4), cbor.Int(-2), part, cbor.Int(-4), part}}
	got, e := key.FromItem(x)
	if e != api.OK || !equal(got, k) {
		t.Fatalf("FromItem(%v): %v, error %d", x, got, e)
	}
	apart(t, got)
}

// R2: nil and empty slices are equivalent in arguments.
func TestEmptySlices(t *testing.T) {
	none := []byte{}
	for _, k := range valids() {
		full := func(b []byte) []byte {
			if len(b) == 0 {
				return none
			}
			return b
		}
		k.Kid, k.X, k.D, k.K = full(k.Kid), full(k.X), full(k.D), full(k.K)
		check(t, k)
	}
	check(t, api.Key{Kid: none, X: none, D: none, K: none})
	check(t, api.Key{Kty: 1, Crv: 4, X: none, D: none})
	check(t, api.Key{Kty: 4, K: none})
}
