package cbor_test

import (
	"bytes"
	"encoding/hex"
	"math"
	"slices"
	"testing"

	"coresec/api"
	"coresec/cbor"
)

func unhex(s string) []byte {
	b, err := hex.DecodeString(s)
	if err != nil {
		panic(err)
	}
	return b
}

// equal compares items field by field; no bytes and an empty slice are the same.
func equal(a, b api.Item) bool {
	return a.Kind == b.Kind && a.N == b.N && bytes.Equal(a.Bytes, b.Bytes) && slices.EqualFunc(a.Items, b.Items, equal)
}

func zero(x api.Item) bool { return equal(x, api.Item{}) }

func text(s string) api.Item { return api.Item{Kind: api.KindText, Bytes: []byte(s)} }

func octets(n int) api.Item { return api.Item{Kind: api.KindBytes, Bytes: make([]byte, n)} }

func uintItem(n uint64) api.Item { return api.Item{Kind: api.KindUint, N: n} }

func nintItem(n uint64) api.Item { return api.Item{Kind: api.KindNint, N: n} }

func list(l ...api.Item) api.Item { return api.Item{Kind: api.KindArray, Items: l} }

func mapOf(l ...api.Item) api.Item { return api.Item{Kind: api.KindMap, Items: l} }

func tagged(n uint64, x api.Item) api.Item {
	return api.Item{Kind: api.KindTag, N: n, Items: []api.Item{x}}
}

func simple(n uint64) api.Item { return api.Item{Kind: api.KindSimple, N: n} }

func float(f float64) api.Item { return api.Item{Kind: api.KindFloat, N: math.Float64bits(f)} }

func floatOf(n uint64) api.Item { return api.Item{Kind: api.KindFloat, N: n} }

// nested lies n levels deep, in arrays, maps and tags by turns.
func nested(n int) api.Item {
	x := uintItem(0)
	for i := range n {
		switch i % 3 {
		case 0:
			x = list(x)
		case 1:
			x = mapOf(uintItem(0), x)
		default:
			x = tagged(1, x)
		}
	}
	return x
}

func zeros(n int) []api.Item { return make([]api.Item, n) }

type coded struct {
	name string
	item api.Item
	code string
}

func codedItems() []coded {
	return []coded{
		{"0", uintItem(0), "00"},
		{"23", uintItem(23), "17"},
		{"24", uintItem(24), "1818"},
		{"255", uintItem(255), "18ff"},
		{"256", uintItem(256), "190100"},
		{"2^16 - 1", uintItem(1<<16 - 1), "19ffff"},
		{"2^16", uintItem(1 << 16), "1a00010000"},
		{"2^32 - 1", uintItem(1<<32 - 1), "1affffffff"},
		{"2^32", uintItem(1 << 32), "1b0000000100000000"},
		{"2^64 - 1", uintItem(1<<64 - 1), "1bffffffffffffffff"},
		{"-1", nintItem(0), "20"},
		{"-24", nintItem(23), "37"},
		{"-25", nintItem(24), "3818"},
		{"-500", nintItem(499), "3901f3"},
		{"-2^64", nintItem(1<<64 - 1), "3bffffffffffffffff"},
		{"no bytes", octets(0), "40"},
		{"bytes", api.Item{Kind: api.KindBytes, Bytes: []byte{1, 255}}, "4201ff"},
		{"24 bytes", octets(24), "5818" + hex.EncodeToString(make([]byte, 24))},
		{"256 bytes", octets(256), "590100" + hex.EncodeToString(make([]byte, 256))},
		{"no text", text(""), "60"},
		{"text", text("\u00fc\u6c34"), "65c3bce6b0b4"},
		{"no elements", list(), "80"},
		{"array in array", list(uintItem(1), list(uintItem(2), uintItem(3))), "8201820203"},
		{"24 elements", list(zeros(24)...), "9818" + hex.EncodeToString(make([]byte, 24))},
		{"empty map", mapOf(), "a0"},
		{"map", mapOf(uintItem(2), uintItem(3), uintItem(10), uintItem(1)), "a202030a01"},
		{"map of keys of many kinds", mapOf(uintItem(24), uintItem(0), nintItem(0), uintItem(0), text("b"), uintItem(0), text("aa"), uintItem(0), list(), uintItem(0)), "a5181800200061620062616100" + "8000"},
		{"tag 0", tagged(0, uintItem(1)), "c001"},
		{"tag 24", tagged(24, octets(0)), "d81840"},
		{"tag 2^64 - 1", tagged(1<<64-1, uintItem(1)), "dbffffffffffffffff01"},
		{"simple 0", simple(0), "e0"},
		{"false", simple(20), "f4"},
		{"simple 23", simple(23), "f7"},
		{"simple 32", simple(32), "f820"},
		{"simple 255", simple(255), "f8ff"},
		{"not a number", floatOf(0x7ff8000000000000), "f97e00"},
		{"0.0", float(0), "f90000"},
		{"-0.0", float(math.Copysign(0, -1)), "f98000"},
		{"1.5", float(1.5), "f93e00"},
		{"-4.0", float(-4), "f9c400"},
		{"greatest half", float(65504), "f97bff"},
		{"above the halves", float(65520), "fa477ff000"},
		{"65536", float(65536), "fa47800000"},
		{"least normal half", float(0x1p-14), "f90400"},
		{"greatest subnormal half", float(0x3ffp-24), "f903ff"},
		{"least half", float(0x1p-24), "f90001"},
		{"below the halves", float(0x1p-25), "fa33000000"},
		{"between two subnormal halves", float(0x3p-25), "fa33c00000"},
		{"between two halves", float(1 + 0x1p-11), "fa3f801000"},
		{"greatest single", float(math.MaxFloat32), "fa7f7fffff"},
		{"2^128", float(0x1p128), "fb47f0000000000000"},
		{"least normal single", float(0x1p-126), "fa00800000"},
		{"least single", float(0x1p-149), "fa00000001"},
		{"below the singles", float(0x1p-150), "fb3690000000000000"},
		{"between two subnormal singles", float(0x3p-150), "fb36a8000000000000"},
		{"between two singles", float(1 + 0x1p-24), "fb3ff0000010000000"},
		{"1.1", float(1.1), "fb3ff199999999999a"},
		{"least double", floatOf(1), "fb0000000000000001"},
		{"greatest double", float(math.MaxFloat64), "fb7fefffffffffffff"},
		{"infinity", float(math.Inf(1)), "f97c00"},
		{"-infinity", float(math.Inf(-1)), "f9fc00"},
	}
}

// P1.1, and P1.2 and P1.3 for what is valid.
func TestEncodings(t *testing.T) {
	for _, c := range codedItems() {
		want := unhex(c.code)
		if b, e := cbor.Encode(c.item); e != api.OK || !bytes.Equal(b, want) {
			t.Errorf("Encode of %s: %x, error %d; want %x", c.name, b, e, want)
		}
		if !cbor.Valid(c.item) {
			t.Errorf("%s is not valid", c.name)
		}
		if n := cbor.Size(c.item); n != len(want) {
			t.Errorf("Size of %s: %d, want %d", c.name, n, len(want))
		}
		if x, e := cbor.Decode(want); e != api.OK || !equal(x, c.item) {
			t.Errorf("Decode of %s: %v, error %d", c.name, x, e)
		}
		long := append(bytes.Clone(want), 0xff, 0x00)
		if x, n, e := cbor.Prefix(long); e != api.OK || n != len(want) || !equal(x, c.item) {
			t.Errorf("Prefix of %s: %v, %d bytes, error %d", c.name, x, n, e)
		}
		for cut := range len(want) {
			if x, n, e := cbor.Prefix(want[:cut]); e != api.ErrShort || n != 0 || !zero(x) {
				t.Errorf("Prefix of %s cut to %d bytes: %v, %d bytes, error %d", c.name, cut, x, n, e)
			}
		}
	}
}

func refused(t *testing.T, name string, x api.Item) {
	t.Helper()
	if cbor.Valid(x) {
		t.Errorf("%s is valid", name)
	}
	if n := cbor.Size(x); n != 0 {
		t.Errorf("Size of %s: %d", name, n)
	}
	if b, e := cbor.Encode(x); e != api.ErrArg || len(b) != 0 {
		t.Errorf("Encode of %s: %x, error %d", name, b, e)
	}
}

// P1.1: each condition of validity, and that an element must meet it, too.
func TestNotValid(t *testing.T) {
	one := []byte{1}
	for _, c := range []struct {
		name string
		item api.Item
	}{
		{"the kind -1", api.Item{Kind: -1}},
		{"the kind 9", api.Item{Kind: 9}},
		{"a number with bytes", api.Item{Kind: api.KindUint, Bytes: one}},
		{"a number with elements", api.Item{Kind: api.KindUint, Items: zeros(1)}},
		{"a negative number with bytes", api.Item{Kind: api.KindNint, Bytes: one}},
		{"a negative number with elements", api.Item{Kind: api.KindNint, Items: zeros(1)}},
		{"bytes with a number", api.Item{Kind: api.KindBytes, N: 1}},
		{"bytes with elements", api.Item{Kind: api.KindBytes, Items: zeros(1)}},
		{"a text with a number", api.Item{Kind: api.KindText, N: 1}},
		{"a text with elements", api.Item{Kind: api.KindText, Items: zeros(1)}},
		{"an array with a number", api.Item{Kind: api.KindArray, N: 1}},
		{"an array with bytes", api.Item{Kind: api.KindArray, Bytes: one}},
		{"a map with a number", api.Item{Kind: api.KindMap, N: 1}},
		{"a map with bytes", api.Item{Kind: api.KindMap, Bytes: one}},
		{"a tag with bytes", api.Item{Kind: api.KindTag, Bytes: one, Items: zeros(1)}},
		{"a simple value with bytes", api.Item{Kind: api.KindSimple, Bytes: one}},
		{"a simple value with elements", api.Item{Kind: api.KindSimple, Items: zeros(1)}},
		{"a float with bytes", api.Item{Kind: api.KindFloat, Bytes: one}},
		{"a float with elements", api.Item{Kind: api.KindFloat, Items: zeros(1)}},
		{"a byte that is no text", text("a\xff")},
		{"half a surrogate pair", text("\xed\xa0\x80")},
		{"a character in too many bytes", text("\xc0\x80")},
		{"a key without a value", mapOf(uintItem(1))},
		{"a pair and a key", mapOf(zeros(3)...)},
		{"equal keys", mapOf(uintItem(1), uintItem(1), uintItem(1), uintItem(2))},
		{"descending keys", mapOf(uintItem(2), uintItem(1), uintItem(1), uintItem(2))},
		{"keys that descend at the end", mapOf(uintItem(1), uintItem(0), uintItem(3), uintItem(0), uintItem(2), uintItem(0))},
		{"a longer text before a shorter one", mapOf(text("aa"), uintItem(0), text("b"), uintItem(0))},
		{"a negative key before a number", mapOf(nintItem(0), uintItem(0), uintItem(500), uintItem(0))},
		{"a tag of nothing", api.Item{Kind: api.KindTag}},
		{"a tag of two", api.Item{Kind: api.KindTag, Items: zeros(2)}},
		{"the simple value 24", simple(24)},
		{"the simple value 31", simple(31)},
		{"the simple value 256", simple(256)},
		{"another float that is not a number", floatOf(0x7ff8000000000001)},
		{"a negative float that is not a number", floatOf(0xfff8000000000000)},
		{"a signalling float that is not a number", floatOf(0x7ff0000000000001)},
	} {
		refused(t, c.name, c.item)
		refused(t, c.name+" in an array", list(uintItem(1), c.item))
		refused(t, c.name+" as a key", mapOf(c.item, uintItem(1)))
		refused(t, c.name+" as a value", mapOf(uintItem(1), c.item))
		refused(t, c.name+" in a tag", tagged(1, c.item))
	}
}

// P1.1: the limits are values that are permitted.
func TestLimitsOfItems(t *testing.T) {
	for _, c := range []struct {
		name        string
		last, first api.Item
	}{
		{"depth", nested(api.MaxDepth), nested(api.MaxDepth + 1)},
		{"depth of the empty array", deep(api.MaxDepth-1, list()), deep(api.MaxDepth, list())},
		{"depth of the empty map", deep(api.MaxDepth-1, mapOf()), deep(api.MaxDepth, mapOf())},
		{"items of an array", list(zeros(api.MaxItems - 1)...), list(zeros(api.MaxItems)...)},
		{"items of two arrays", list(list(zeros(200)...), list(zeros(53)...)), list(list(zeros(200)...), list(zeros(54)...))},
		{"bytes of a string", octets(api.MaxBytes - 3), octets(api.MaxBytes - 2)},
		{"bytes of a text", text(string(make([]byte, api.MaxBytes-3))), text(string(make([]byte, api.MaxBytes-2)))},
		{"bytes of a number at the end", list(octets(4089), uintItem(1<<16-1)), list(octets(4089), uintItem(1<<16))},
	} {
		b, e := cbor.Encode(c.last)
		if e != api.OK || !cbor.Valid(c.last) || cbor.Size(c.last) != len(b) || len(b) > api.MaxBytes {
			t.Errorf("%s: not valid at the limit", c.name)
		}
		if x, e := cbor.Decode(b); e != api.OK || !equal(x, c.last) {
			t.Errorf("%s: Decode at the limit: error %d", c.name, e)
		}
		refused(t, c.name+" beyond the limit", c.first)
	}
	refused(t, "a string of a million bytes", octets(1_000_000))
	refused(t, "an array of a million items", list(zeros(1_000_000)...))
}

func deep(n int, x api.Item) api.Item {
	for range n {
		x = list(x)
	}
	return x
}

// R1: validity is decided even for an item that contains itself, many times.
func TestCyclicItem(t *testing.T) {
	items := make([]api.Item, 2)
	items[0] = api.Item{Kind: api.KindArray, Items: items}
	items[1] = api.Item{Kind: api.KindMap, Items: items}
	for _, x := range items {
		refused(t, "a cycle", x)
		if cbor.Cmp(x, uintItem(1)) != 0 || cbor.Cmp(uintItem(1), x) != 0 {
			t.Error("Cmp of a cycle")
		}
		if _, e := cbor.Build([]api.Item{x, x}); e != api.ErrArg {
			t.Error("Build of a cycle:", e)
		}
		if _, ok := cbor.Find(x, uintItem(1)); ok {
			t.Error("Find in a cycle")
		}
		if _, ok := cbor.Find(mapOf(zeros(2)...), x); ok {
			t.Error("Find of a cycle")
		}
	}
}

// shortest is the form of a float by the conversions of the language.
func shortest(f float64) []byte {
	put := func(first byte, size int, n uint64) []byte {
		b := []byte{first}
		for i := size - 1; i >= 0; i-- {
			b = append(b, byte(n>>(8*i)))
		}
		return b
	}
	if math.Float64bits(float64(float32(f))) != math.Float64bits(f) {
		return put(0xfb, 8, math.Float64bits(f))
	}
	return put(0xfa, 4, uint64(math.Float32bits(float32(f))))
}

// halfValue is the number that a half stands for, by the definition of the format.
func halfValue(h uint16) float64 {
	f := float64(h & 0x3ff)
	switch e := int(h >> 10 & 31); e {
	case 0:
		f = math.Ldexp(f, -24)
	case 31:
		f = math.Inf(1)
	default:
		f = math.Ldexp(f+1024, e-25)
	}
	if h>>15 == 1 {
		return math.Copysign(f, -1)
	}
	return f
}

// P1.1 and P1.2: every half, alone and in its longer forms.
func TestHalves(t *testing.T) {
	for i := range 1 << 16 {
		h := uint16(i)
		code := []byte{0xf9, byte(h >> 8), byte(h)}
		x, e := cbor.Decode(code)
		if h>>10&31 == 31 && h&0x3ff != 0 {
			if h == 0x7e00 && e == api.OK || h != 0x7e00 && e == api.ErrForm {
				continue
			}
			t.Fatalf("Decode of %x: error %d", code, e)
		}
		f := halfValue(h)
		if e != api.OK || !equal(x, float(f)) {
			t.Fatalf("Decode of %x: %x, error %d; want %x", code, x.N, e, math.Float64bits(f))
		}
		if b, e := cbor.Encode(x); e != api.OK || !bytes.Equal(b, code) {
			t.Fatalf("Encode of the half %x: %x, error %d", h, b, e)
		}
		if _, e := cbor.Decode(shortest(f)); e != api.ErrForm {
			t.Fatalf("Decode of the half %x as a single: error %d", h, e)
		}
	}
}

// P1.1 and P1.2: floats around every power of two, which halves are not.
func TestSinglesAndDoubles(t *testing.T) {
	halves := map[uint64]bool{}
	for i := range 1 << 16 {
		halves[math.Float64bits(halfValue(uint16(i)))] = true
	}
	for exp := range uint64(2047) {
		for _, frac := range []uint64{0, 1, 1 << 28, 1 << 29, 3 << 28, 1 << 30, 1 << 41, 1<<51 | 1<<29, 1<<52 - 1<<29, 1<<52 - 1<<28, 1<<52 - 1} {
			n := exp<<52 | frac | exp&1<<63
			f := math.Float64frombits(n)
			if halves[n] {
				continue
			}
			want := shortest(f)
			if b, e := cbor.Encode(floatOf(n)); e != api.OK || !bytes.Equal(b, want) {
				t.Fatalf("Encode of the float %x: %x, error %d; want %x", n, b, e, want)
			}
			if x, e := cbor.Decode(want); e != api.OK || !equal(x, floatOf(n)) {
				t.Fatalf("Decode of %x: %x, error %d", want, x.N, e)
			}
			if want[0] == 0xfb {
				continue
			}
			long := []byte{0xfb}
			for i := 7; i >= 0; i-- {
				long = append(long, byte(n>>(8*i)))
			}
			if _, e := cbor.Decode(long); e != api.ErrForm {
				t.Fatalf("Decode of %x: error %d", long, e)
			}
		}
	}
}
