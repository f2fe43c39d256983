package diag_test

import (
	"bytes"
	"math"
	"slices"
	"strings"
	"testing"

	"coresec/api"
	"coresec/cbor"
	"coresec/diag"
)

// equal compares items field by field; no bytes and an empty slice are the same.
func equal(a, b api.Item) bool {
	return a.Kind == b.Kind && a.N == b.N && bytes.Equal(a.Bytes, b.Bytes) && slices.EqualFunc(a.Items, b.Items, equal)
}

func nint(n uint64) api.Item   { return api.Item{Kind: api.KindNint, N: n} }
func simple(n uint64) api.Item { return api.Item{Kind: api.KindSimple, N: n} }
func float(n uint64) api.Item  { return api.Item{Kind: api.KindFloat, N: n} }

func tag(n uint64, x ...api.Item) api.Item { return api.Item{Kind: api.KindTag, N: n, Items: x} }

func mapOf(pairs ...api.Item) api.Item { return api.Item{Kind: api.KindMap, Items: pairs} }

// nested returns n arrays within each other.
func nested(n int) api.Item {
	x := cbor.Array()
	for range n - 1 {
		x = cbor.Array(x)
	}
	return x
}

type printed struct {
	item api.Item
	text string
}

// printedItems are items of all kinds with their texts.
func printedItems() []printed {
	return slices.Concat(printedNumbers(), printedStrings(), printedNests())
}

func printedNumbers() []printed {
	return []printed{
		{cbor.Uint(0), "0"}, {cbor.Uint(9), "9"}, {cbor.Uint(10), "10"}, {cbor.Uint(24), "24"}, {cbor.Uint(1 << 63), "9223372036854775808"}, {cbor.Uint(math.MaxUint64), "18446744073709551615"},
		{nint(0), "-1"}, {nint(9), "-10"}, {cbor.Int(-500), "-500"}, {nint(1<<63 - 1), "-9223372036854775808"}, {nint(1 << 63), "-9223372036854775809"}, {nint(math.MaxUint64 - 1), "-18446744073709551615"}, {nint(math.MaxUint64), "-18446744073709551616"},
		{simple(20), "false"}, {simple(21), "true"}, {simple(22), "null"}, {simple(23), "undefined"},
		{simple(0), "simple(0)"}, {simple(19), "simple(19)"}, {simple(32), "simple(32)"}, {simple(255), "simple(255)"},
		{float(0), "float'0000000000000000'"}, {float(1 << 63), "float'8000000000000000'"}, {float(math.Float64bits(1.5)), "float'3ff8000000000000'"}, {float(math.Float64bits(-0.1)), "float'bfb999999999999a'"},
		{float(0x7ff0000000000000), "float'7ff0000000000000'"}, {float(0xfff0000000000000), "float'fff0000000000000'"}, {float(0x7ff8000000000000), "float'7ff8000000000000'"}, {float(1), "float'0000000000000001'"}, {float(0x0123456789abcdef), "float'0123456789abcdef'"},
	}
}

func printedStrings() []printed {
	return []printed{
		{cbor.Bytes(nil), "h''"}, {cbor.Bytes([]byte{0}), "h'00'"}, {cbor.Bytes([]byte{0x01, 0x23, 0x45, 0x67, 0x89, 0xab, 0xcd, 0xef, 0xff}), "h'0123456789abcdefff'"},
		{cbor.Text(""), `""`}, {cbor.Text("a"), `"a"`}, {cbor.Text(`"`), `"\""`}, {cbor.Text(`\`), `"\\"`}, {cbor.Text(`\"`), `"\\\""`}, {cbor.Text("a\"b\n"), `"a\"b\u000a"`},
		{cbor.Text("\x00\x09\x0d\x1f \x7e\x7f\u0080"), "\"\\u0000\\u0009\\u000d\\u001f \x7e\\u007f\u0080\""}, {cbor.Text(`\u0000`), `"\\u0000"`}, {cbor.Text("u00a"), `"u00a"`}, {cbor.Text("\u00fc\u6c34\U00010151\ufeff"), "\"\u00fc\u6c34\U00010151\ufeff\""},
		{cbor.Text(", ]}): 1'"), `", ]}): 1'"`}, {cbor.Text("true"), `"true"`}, {cbor.Text("/*"), `"/*"`},
	}
}

func printedNests() []printed {
	return []printed{
		{cbor.Array(), "[]"}, {cbor.Array(cbor.Uint(1)), "[1]"}, {cbor.Array(cbor.Uint(1), nint(0), cbor.Text("a"), cbor.Bytes([]byte{1})), `[1, -1, "a", h'01']`}, {cbor.Array(cbor.Array(), cbor.Array(mapOf())), "[[], [{}]]"},
		{mapOf(), "{}"}, {mapOf(cbor.Uint(1), cbor.Bytes([]byte{10, 255}), cbor.Int(-3), simple(21)), "{1: h'0aff', -3: true}"}, {mapOf(cbor.Uint(2), cbor.Uint(3), cbor.Uint(10), cbor.Uint(1)), "{2: 3, 10: 1}"},
		{mapOf(cbor.Uint(10), cbor.Uint(0), nint(0), cbor.Uint(0), cbor.Text("b"), cbor.Uint(0), cbor.Text("aa"), cbor.Uint(0), cbor.Array(), mapOf(cbor.Array(), cbor.Uint(0))), `{10: 0, -1: 0, "b": 0, "aa": 0, []: {[]: 0}}`},
		{tag(24, cbor.Bytes(nil)), "24(h'')"}, {tag(0, cbor.Uint(0)), "0(0)"}, {tag(math.MaxUint64, tag(1, cbor.Array(cbor.Uint(2)))), "18446744073709551615(1([2]))"}, {cbor.Array(tag(1, simple(20)), simple(0)), "[1(false), simple(0)]"},
		{nested(8), "[[[[[[[[]]]]]]]]"},
	}
}

// P3.1 and P3.2: the texts of items of all kinds, both ways.
func TestTexts(t *testing.T) {
	for _, c := range printedItems() {
		if s, e := diag.Print(c.item); e != api.OK || s != c.text {
			t.Errorf("Print of %v: %s, error %d; want %s", c.item, s, e, c.text)
		}
		if x, e := diag.Parse(c.text); e != api.OK || !equal(x, c.item) {
			t.Errorf("Parse of %s: %v, error %d; want %v", c.text, x, e, c.item)
		}
	}
}

// P3.1 and P3.2: each byte of a byte string, and each byte that is a character of its own.
func TestEveryByte(t *testing.T) {
	const hex = "0123456789abcdef"
	for i := range 256 {
		code := string([]byte{hex[i/16], hex[i%16]})
		texts := []printed{{cbor.Bytes([]byte{byte(i)}), "h'" + code + "'"}}
		switch {
		case i < 32 || i == 127:
			texts = append(texts, printed{cbor.Text(string(rune(i))), `"\u00` + code + `"`})
		case i == '"' || i == '\\':
			texts = append(texts, printed{cbor.Text(string(rune(i))), `"\` + string(rune(i)) + `"`})
		case i < 128:
			texts = append(texts, printed{cbor.Text(string(rune(i))), `"` + string(rune(i)) + `"`})
		}
		for _, c := range texts {
			s, e := diag.Print(c.item)
			x, f := diag.Parse(c.text)
			if e != api.OK || s != c.text || f != api.OK || !equal(x, c.item) {
				t.Errorf("byte %d: printed %s, error %d; parsed %v, error %d", i, s, e, x, f)
			}
		}
	}
}

// P3.1 and P3.2: all simple values.
func TestSimpleValues(t *testing.T) {
	for n := range uint64(300) {
		s, e := diag.Print(simple(n))
		if valid := n < 24 || n >= 32 && n < 256; !valid {
			if e != api.ErrArg || s != "" {
				t.Errorf("Print of the simple value %d: %s, error %d", n, s, e)
			}
			continue
		}
		if x, f := diag.Parse(s); e != api.OK || f != api.OK || !equal(x, simple(n)) {
			t.Errorf("the simple value %d: %s, error %d; parsed %v, error %d", n, s, e, x, f)
		}
	}
}

// P3.1: what is not valid has no text.
func TestItemsWithoutTexts(t *testing.T) {
	for _, c := range []struct {
		name string
		item api.Item
	}{
		{"a kind that is none", api.Item{Kind: 9}},
		{"a negative kind", api.Item{Kind: -1}},
		{"a number with bytes", api.Item{Bytes: []byte{1}}},
		{"a byte string with a number", api.Item{Kind: api.KindBytes, N: 1}},
		{"a text that is not UTF-8", cbor.Text("\xff")},
		{"a key without a value", mapOf(cbor.Uint(1))},
		{"keys that descend", mapOf(cbor.Uint(2), cbor.Uint(0), cbor.Uint(1), cbor.Uint(0))},
		{"equal keys", mapOf(cbor.Uint(1), cbor.Uint(0), cbor.Uint(1), cbor.Uint(0))},
		{"a tag of nothing", tag(1)},
		{"a tag of two items", tag(1, cbor.Uint(0), cbor.Uint(0))},
		{"a float that is not a number", float(0x7ff8000000000001)},
		{"an element that is not valid", cbor.Array(cbor.Uint(0), simple(24))},
		{"nine levels", nested(9)},
		{"257 items", cbor.Array(make([]api.Item, 256)...)},
		{"4097 bytes", cbor.Bytes(make([]byte, 4094))},
	} {
		if s, e := diag.Print(c.item); e != api.ErrArg || s != "" {
			t.Errorf("Print of %s: %s, error %d", c.name, s, e)
		}
	}
}

// P3.1 and P3.2: items as large as is permitted.
func TestLargestItems(t *testing.T) {
	zeros := make([]api.Item, 255)
	for _, c := range []printed{
		{cbor.Array(zeros...), "[0" + strings.Repeat(", 0", 254) + "]"},
		{cbor.Bytes(make([]byte, 4093)), "h'" + strings.Repeat("00", 4093) + "'"},
		{cbor.Text(strings.Repeat("\x01", 4093)), `"` + strings.Repeat(`\u0001`, 4093) + `"`},
		{tag(1, tag(2, tag(3, tag(4, tag(5, tag(6, tag(7, tag(8, cbor.Uint(9))))))))), "1(2(3(4(5(6(7(8(9))))))))"},
	} {
		s, e := diag.Print(c.item)
		x, f := diag.Parse(c.text)
		if e != api.OK || s != c.text || f != api.OK || !equal(x, c.item) {
			t.Errorf("%.40s: printed %.40s, error %d; error %d of Parse", c.text, s, e, f)
		}
	}
}

// R2: the item shares no memory with another result.
func TestNewMemory(t *testing.T) {
	const text = `{1: h'01', 2: ["a", "a"]}`
	x, _ := diag.Parse(text)
	y, _ := diag.Parse(text)
	x.Items[1].Bytes[0] = 7
	list := x.Items[3].Items
	list[0].Bytes[0] = 'b'
	list = append(list[:1], cbor.Uint(0))
	if s, e := diag.Print(y); e != api.OK || s != text {
		t.Errorf("two results share memory: %s, error %d", s, e)
	}
	if s, _ := diag.Print(cbor.Array(list[0], x.Items[1])); s != `["b", h'07']` {
		t.Errorf("parts of a result: %s", s)
	}
}
