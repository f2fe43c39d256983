package key_test

import (
	"bytes"
	"math"
	"math/rand"
	"slices"
	"strings"
	"testing"

	"coresec/api"
	"coresec/cbor"
	"coresec/diag"
	"coresec/key"
)

// digits returns a byte string of a text of an item: n times the byte b.
func digits(b string, n int) string { return "h'" + strings.Repeat(b, n) + "'" }

// parsed returns the item of a text.
func parsed(t *testing.T, s string) api.Item {
	t.Helper()
	x, e := diag.Parse(s)
	if e != api.OK {
		t.Fatalf("%s: error %d", s, e)
	}
	return x
}

// refused tells of an item that is not refused with this error, as an item and as bytes.
func refused(t *testing.T, x api.Item, want api.Errno) {
	t.Helper()
	if k, e := key.FromItem(x); e != want || !equal(k, api.Key{}) {
		t.Errorf("FromItem(%v): %v, error %d, want %d", x, k, e, want)
	}
	b, e := cbor.Encode(x)
	if e != api.OK {
		return
	}
	if k, e := key.Decode(b); e != want || !equal(k, api.Key{}) {
		t.Errorf("Decode(%x): %v, error %d, want %d", b, k, e, want)
	}
}

// P11.1: the examples of the chapter and others, as texts.
func TestItems(t *testing.T) {
	full := digits("ab", 32)
	x := bytes.Repeat([]byte{0xab}, 32)
	for _, c := range []struct {
		k    api.Key
		want string
	}{
		{named(sym([]byte{1, 2}), []byte{0xaa}, 0), "{1: 4, 2: h'aa', -1: h'0102'}"},
		{okp(4, x, nil), "{1: 1, -1: 4, -2: " + full + "}"},
		{okp(6, nil, x), "{1: 1, -1: 6, -4: " + full + "}"},
		{named(okp(6, x, x), []byte{0}, api.AlgEdDSA), "{1: 1, 2: h'00', 3: -8, -1: 6, -2: " + full + ", -4: " + full + "}"},
		{named(sym(x), bytes.Repeat([]byte{1}, 16), 65535), "{1: 4, 2: " + digits("01", 16) + ", 3: 65535, -1: " + full + "}"},
		{named(sym([]byte{0}), nil, -65536), "{1: 4, 3: -65536, -1: h'00'}"},
		{sym(bytes.Repeat([]byte{7}, 64)), "{1: 4, -1: " + digits("07", 64) + "}"},
	} {
		y, e := key.ToItem(c.k)
		if s, _ := diag.Print(y); e != api.OK || s != c.want {
			t.Errorf("ToItem(%v): %s, error %d, want %s", c.k, s, e, c.want)
		}
		k, e := key.FromItem(parsed(t, c.want))
		if e != api.OK || !equal(k, c.k) {
			t.Errorf("FromItem(%s): %v, error %d, want %v", c.want, k, e, c.k)
		}
	}
}

// P11.1, P11.2, Consequences: keys and items, and keys and bytes, determine each other.
func TestRoundTrip(t *testing.T) {
	for _, k := range valids() {
		x, e := key.ToItem(k)
		if e != api.OK || !cbor.Valid(x) {
			t.Fatalf("ToItem(%v): %v, error %d", k, x, e)
		}
		if got, e := key.FromItem(x); e != api.OK || !equal(got, k) {
			t.Errorf("FromItem of ToItem(%v): %v, error %d", k, got, e)
		}
		b, e := key.Encode(k)
		if want, _ := cbor.Encode(x); e != api.OK || !bytes.Equal(b, want) {
			t.Errorf("Encode(%v): %x, error %d, want %x", k, b, e, want)
		}
		if got, e := key.Decode(b); e != api.OK || !equal(got, k) {
			t.Errorf("Decode(%x): %v, error %d, want %v", b, got, e, k)
		}
	}
}

// entry is a pair of a map, or none if value is empty, and what it says of a key; a set that is nil says that there is no key.
type entry struct {
	label, value string
	set          func(*api.Key)
}

func nothing(*api.Key) {}

// entries returns for each label of a key the pairs that a map may have, right and wrong ones.
func entries() [][]entry {
	algorithm := func(n int) func(*api.Key) { return func(k *api.Key) { k.Alg = n } }
	part := func(n int) []byte { return bytes.Repeat([]byte{0x5a}, n) }
	return [][]entry{
		{{"1", "1", func(k *api.Key) { k.Kty = 1 }}, {"1", "4", func(k *api.Key) { k.Kty = 4 }}, {"1", "2", nil}, {"1", "-2", nil}, {"1", "h'01'", nil}, {"1", "", nil}},
		{{"2", "", nothing}, {"2", "h'aa'", func(k *api.Key) { k.Kid = []byte{0xaa} }}, {"2", digits("00", 17), nil}, {"2", "h''", nil}, {"2", "\"a\"", nil}},
		{{"3", "", nothing}, {"3", "-8", algorithm(-8)}, {"3", "65535", algorithm(65535)}, {"3", "0", nil}, {"3", "65536", nil}, {"3", "18446744073709551615", nil}, {"3", "-18446744073709551616", nil}, {"3", "h''", nil}},
		{{"-1", "4", func(k *api.Key) { k.Crv = 4 }}, {"-1", "6", func(k *api.Key) { k.Crv = 6 }}, {"-1", digits("5a", 32), func(k *api.Key) { k.K = part(32) }}, {"-1", digits("5a", 65), nil}, {"-1", "h''", nil}, {"-1", "", nil}, {"-1", "0", nil}, {"-1", "\"a\"", nil}},
		{{"-2", "", nothing}, {"-2", digits("5a", 32), func(k *api.Key) { k.X = part(32) }}, {"-2", digits("5a", 31), nil}, {"-2", "h''", nil}, {"-2", "1", nil}},
		{{"-4", "", nothing}, {"-4", digits("5a", 32), func(k *api.Key) { k.D = part(32) }}, {"-4", digits("5a", 33), nil}, {"-4", "h''", nil}, {"-4", "[" + digits("5a", 32) + "]", nil}},
	}
}

// P11.2: maps of all combinations of right and wrong pairs: exactly the items of keys are read.
func TestCombinations(t *testing.T) {
	count := 0
	var walk func(rest [][]entry, pairs []string, k api.Key, right bool)
	walk = func(rest [][]entry, pairs []string, k api.Key, right bool) {
		if len(rest) == 0 {
			x := parsed(t, "{"+strings.Join(pairs, ", ")+"}")
			if !right || !isValid(k) {
				refused(t, x, api.ErrKey)
			} else if got, e := key.FromItem(x); e != api.OK || !equal(got, k) {
				t.Errorf("FromItem(%v): %v, error %d, want %v", x, got, e, k)
			} else {
				count++
			}
			return
		}
		for _, c := range rest[0] {
			next, l := pairs, k
			if c.value != "" {
				next = append(slices.Clone(pairs), c.label+": "+c.value)
			}
			if c.set != nil {
				c.set(&l)
			}
			walk(rest[1:], next, l, right && c.set != nil)
		}
	}
	walk(entries(), nil, api.Key{}, true)
	// 2 identifiers and 3 algorithms of 2 curves with 3 ways to have parts, and of one secret.
	if count != 2*3*(2*3+1) {
		t.Errorf("%d keys", count)
	}
}

// without returns what is left of a map without the pair of this number.
func without(x api.Item, i int) api.Item {
	x.Items = slices.Delete(slices.Clone(x.Items), 2*i, 2*i+2)
	return x
}

// with returns a map with one pair more.
func with(t *testing.T, x, label, value api.Item) api.Item {
	t.Helper()
	y, e := cbor.Build(append(slices.Clone(x.Items), label, value))
	if e != api.OK {
		t.Fatalf("a map with the label %v: error %d", label, e)
	}
	return y
}

// some returns keys of which the items have few and many labels.
func some() []api.Key {
	return []api.Key{
		sym(fill(1, 5)), named(sym(fill(2, 32)), fill(3, 4), 10),
		okp(4, fill(1, 32), nil), okp(6, nil, fill(2, 32)), named(okp(6, fill(3, 32), fill(4, 32)), fill(5, 16), -8),
	}
}

// P11.2: no label may be added, whatever it is: also labels that become one of a key if only 64 bits (or fewer) of the number are looked at.
func TestOtherLabels(t *testing.T) {
	labels := []api.Item{
		cbor.Text(""), cbor.Text("a"), cbor.Text("1"), cbor.Bytes(nil), cbor.Bytes([]byte{1}), cbor.Bytes([]byte{0x20}), cbor.Array(), cbor.Array(cbor.Int(1)),
		{Kind: api.KindMap}, {Kind: api.KindTag, N: 1, Items: []api.Item{cbor.Int(1)}}, {Kind: api.KindSimple, N: 1}, {Kind: api.KindSimple, N: 22},
		{Kind: api.KindFloat, N: math.Float64bits(1)}, {Kind: api.KindFloat, N: math.Float64bits(-1)},
	}
	for _, n := range []int{0, 4, 5, 6, -3, -5, -6, 255, 256, -256, 65537, -65537, 1 << 32, 1<<32 + 1, 1<<32 + 2, 1<<32 + 3, -1 << 32, -1<<32 - 1, math.MaxInt, math.MinInt} {
		labels = append(labels, cbor.Int(n))
	}
	for d := range uint64(8) {
		for _, kind := range []int{api.KindUint, api.KindNint} {
			labels = append(labels, api.Item{Kind: kind, N: math.MaxUint64 - d}, api.Item{Kind: kind, N: 1<<63 + d}, api.Item{Kind: kind, N: 1<<63 - 1 - d})
		}
	}
	values := []api.Item{cbor.Int(0), cbor.Int(1), cbor.Int(4), cbor.Bytes(nil), cbor.Bytes(fill(1, 32)), {Kind: api.KindSimple, N: 22}}
	for _, k := range some() {
		x, _ := key.ToItem(k)
		for _, label := range labels {
			if _, ok := cbor.Find(x, label); ok {
				t.Fatalf("the label %v is there already", label)
			}
			for _, value := range values {
				refused(t, with(t, x, label, value), api.ErrKey)
			}
			// In the place of one that is there.
			for i := range len(x.Items) / 2 {
				refused(t, with(t, without(x, i), label, x.Items[2*i+1]), api.ErrKey)
			}
		}
	}
}

// P11.2: no value may have another kind, or be another number that has the same last 64 (or 63) bits.
func TestOtherValues(t *testing.T) {
	for _, k := range some() {
		x, _ := key.ToItem(k)
		for i := 1; i < len(x.Items); i += 2 {
			v := x.Items[i]
			for _, w := range []api.Item{
				{Kind: 1 - v.Kind&1, N: ^v.N}, {Kind: api.KindFloat, N: math.Float64bits(float64(v.N))}, {Kind: api.KindSimple, N: 20}, cbor.Array(v), cbor.Array(), {Kind: api.KindMap},
				{Kind: api.KindTag, N: 2, Items: []api.Item{v}}, {Kind: api.KindUint, N: v.N ^ 1<<63}, {Kind: api.KindNint, N: v.N ^ 1<<63}, {Kind: api.KindText, Bytes: bytes.Repeat([]byte{'a'}, len(v.Bytes))},
			} {
				y := api.Item{Kind: api.KindMap, Items: slices.Clone(x.Items)}
				y.Items[i] = w
				if !cbor.Valid(y) {
					t.Fatalf("%v is not valid", y)
				}
				refused(t, y, api.ErrKey)
			}
		}
	}
}

// P11.2: items that are no maps, and the map of nothing.
func TestOtherKinds(t *testing.T) {
	x, _ := key.ToItem(okp(4, fill(1, 32), nil))
	for _, y := range []api.Item{
		{}, cbor.Int(-1), cbor.Int(4), cbor.Bytes(code(okp(4, fill(1, 32), nil))), cbor.Text("key"), cbor.Array(), cbor.Array(x), cbor.Array(x.Items...),
		cbor.Array(cbor.Int(1)), {Kind: api.KindMap}, {Kind: api.KindTag, N: 1, Items: []api.Item{x}}, {Kind: api.KindSimple, N: 22}, {Kind: api.KindFloat},
	} {
		refused(t, y, api.ErrKey)
	}
}

// P11.2: ErrArg for what is not a valid item, also where it would be no key, or would be one.
func TestNoItem(t *testing.T) {
	x, _ := key.ToItem(okp(4, fill(1, 32), nil))
	changed := func(f func(y *api.Item)) api.Item {
		y := api.Item{Kind: x.Kind, Items: slices.Clone(x.Items)}
		f(&y)
		return y
	}
	deep := cbor.Int(1)
	for range api.MaxDepth + 1 {
		deep = cbor.Array(deep)
	}
	within := api.Item{Kind: api.KindMap, Items: make([]api.Item, 2)}
	within.Items[0], within.Items[1] = cbor.Int(1), within
	for _, y := range []api.Item{
		{Kind: 9}, {Kind: -1}, {Kind: api.KindMap, Items: []api.Item{cbor.Int(1)}}, {Kind: api.KindSimple, N: 24}, {Kind: api.KindText, Bytes: []byte{0xff}}, deep, within,
		cbor.Bytes(make([]byte, api.MaxBytes)),
		changed(func(y *api.Item) { y.N = 1 }),
		changed(func(y *api.Item) { y.Bytes = []byte{0} }),
		changed(func(y *api.Item) { y.Items = y.Items[:5] }),
		changed(func(y *api.Item) {
			y.Items[0], y.Items[1], y.Items[2], y.Items[3] = y.Items[2], y.Items[3], y.Items[0], y.Items[1]
		}),
		changed(func(y *api.Item) { y.Items = append(y.Items, y.Items[4], y.Items[5]) }),
		changed(func(y *api.Item) { y.Items = append(slices.Clone(y.Items[:2]), y.Items...) }),
		changed(func(y *api.Item) { y.Items[1].Bytes = []byte{1} }),
		changed(func(y *api.Item) { y.Items[5].N = 1 }),
		changed(func(y *api.Item) { y.Items[5].Items = []api.Item{{}} }),
		changed(func(y *api.Item) { y.Items[3].Kind = 9 }),
	} {
		if cbor.Valid(y) {
			t.Fatalf("%v is valid", y)
		}
		refused(t, y, api.ErrArg)
	}
	if k, e := key.FromItem(x); e != api.OK || !equal(k, okp(4, fill(1, 32), nil)) {
		t.Errorf("FromItem(%v): %v, error %d", x, k, e)
	}
}

// P11.2: bytes that cbor.Decode refuses, with its error, and others that it reads.
func TestDecodeErrors(t *testing.T) {
	for _, c := range []struct {
		name string
		b    []byte
		want api.Errno
	}{
		{"nothing", nil, api.ErrShort},
		{"half a map", bytesOf("a1"), api.ErrShort},
		{"a number", bytesOf("01"), api.ErrKey},
		{"an empty map", bytesOf("a0"), api.ErrKey},
		{"a key", bytesOf("a20104204101"), api.OK},
		{"a key and a byte", bytesOf("a2010420410100"), api.ErrMore},
		{"a number and a byte", bytesOf("0100"), api.ErrMore},
		{"a long head of the map", bytesOf("b8020104204101"), api.ErrForm},
		{"a long label", bytesOf("a2180104204101"), api.ErrForm},
		{"a long type", bytesOf("a2011804204101"), api.ErrForm},
		{"a long secret", bytesOf("a2010420580101"), api.ErrForm},
		{"a label of 8 bytes", bytesOf("a201041bffffffffffffffff4101"), api.ErrKey},
		{"an indefinite length", bytesOf("bf0104204101ff"), api.ErrCode},
		{"another order", bytesOf("a22041010104"), api.ErrOrder},
		{"a label twice", bytesOf("a301040104204101"), api.ErrExists},
		{"a text", bytesOf("a201042061ff"), api.ErrText},
		{"a valid text", bytesOf("a20104206161"), api.ErrKey},
		{"too many bytes", append(bytesOf("a20104204101"), make([]byte, api.MaxBytes-5)...), api.ErrLimit},
		{"many bytes", append(bytesOf("a20104204101"), make([]byte, api.MaxBytes-6)...), api.ErrMore},
	} {
		k, e := key.Decode(c.b)
		if e != c.want || e != api.OK && !equal(k, api.Key{}) || e == api.OK && !equal(k, sym([]byte{1})) {
			t.Errorf("Decode of %s: %v, error %d, want %d", c.name, k, e, c.want)
		}
	}
}

// P11.2: beginnings of encodings, and encodings with more bytes.
func TestDecodeLengths(t *testing.T) {
	for _, k := range some() {
		b := code(k)
		for n := range b {
			if got, e := key.Decode(b[:n]); e != api.ErrShort || !equal(got, api.Key{}) {
				t.Errorf("Decode(%x): %v, error %d", b[:n], got, e)
			}
		}
		for n := 1; n < 10; n++ {
			if got, e := key.Decode(append(bytes.Clone(b), make([]byte, n)...)); e != api.ErrMore || !equal(got, api.Key{}) {
				t.Errorf("Decode of %x and %d bytes: %v, error %d", b, n, got, e)
			}
		}
	}
}

// P11.2, Consequences: whatever Decode accepts is what Encode returns; and it refuses with the error of cbor.Decode, or ErrKey.
func TestChangedBytes(t *testing.T) {
	r := rand.New(rand.NewSource(12))
	read := 0
	for _, k := range some() {
		for range 4000 {
			b := code(k)
			for range 1 + r.Intn(2) {
				b[r.Intn(min(len(b), 1+r.Intn(len(b))))] = byte(r.Intn(256))
			}
			got, e := key.Decode(b)
			if e == api.OK {
				read++
				if !isValid(got) || !bytes.Equal(code(got), b) {
					t.Errorf("Decode(%x): %v", b, got)
				}
				continue
			}
			want := api.ErrKey
			if _, f := cbor.Decode(b); f != api.OK {
				want = f
			}
			if e != want || !equal(got, api.Key{}) {
				t.Errorf("Decode(%x): %v, error %d, want %d", b, got, e, want)
			}
		}
	}
	if read < 1000 {
		t.Errorf("only %d of the changed encodings are those of keys", read)
	}
}
