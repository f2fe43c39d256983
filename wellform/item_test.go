package wellform_test

import (
	"bytes"
	"encoding/hex"
	"math"
	"slices"
	"strings"
	"testing"

	"coresec/api"
	"coresec/cbor"
	"coresec/wellform"
)

// equal compares items field by field; no bytes and an empty slice are the same.
func equal(a, b api.Item) bool {
	return a.Kind == b.Kind && a.N == b.N && bytes.Equal(a.Bytes, b.Bytes) && slices.EqualFunc(a.Items, b.Items, equal)
}

// checkRefused checks that Item and Canon return an error, and zero values.
func checkRefused(t *testing.T, name string, b []byte, want api.Errno) {
	t.Helper()
	if x, e := wellform.Item(b); e != want || !equal(x, api.Item{}) {
		t.Errorf("Item of %s: %v, error %d; want %d", name, x, e, want)
	}
	if c, e := wellform.Canon(b); e != want || len(c) != 0 {
		t.Errorf("Canon of %s: %x, error %d; want %d", name, c, e, want)
	}
}

// checkCanon checks what Item and Canon make of b.
func checkCanon(t *testing.T, b, want []byte) {
	t.Helper()
	if c, e := wellform.Canon(b); e != api.OK || !bytes.Equal(c, want) {
		t.Errorf("Canon of %x: %x, error %d; want %x", b, c, e, want)
	}
	x, e := wellform.Item(b)
	if y, _ := cbor.Decode(want); e != api.OK || !equal(x, y) {
		t.Errorf("Item of %x: %v, error %d; want %v", b, x, e, y)
	}
}

// P2.3, and the Consequences: Canon changes nothing in what it returns.
func TestCanon(t *testing.T) {
	for _, c := range generalItems() {
		checkCanon(t, unhex(c[0]), unhex(c[1]))
		checkCanon(t, unhex(c[1]), unhex(c[1]))
	}
}

// P2.3: the errors of Item after those of Scan, and their order.
func TestErrorsOfItem(t *testing.T) {
	const badText, equalKeys = "61ff", "a201000100"
	for _, c := range []failing{
		{"0000", api.ErrMore}, {"00ff", api.ErrMore}, {"001c", api.ErrMore}, {"9fffff", api.ErrMore}, {"9f00ff00", api.ErrMore}, {"5fffff", api.ErrMore},
		{badText + "00", api.ErrMore}, {equalKeys + "00", api.ErrMore},
		{"f800" + "00", api.ErrForm}, {"82" + badText + "1c", api.ErrCode}, {"82" + equalKeys, api.ErrShort}, {"9f" + equalKeys, api.ErrShort}, {"a2010001f800", api.ErrForm},

		{badText, api.ErrText}, {"62c080", api.ErrText}, {"63eda080", api.ErrText}, {"64f4908080", api.ErrText}, {"7801ff", api.ErrText}, {"81" + badText, api.ErrText}, {"a100" + badText, api.ErrText}, {"a1" + badText + "00", api.ErrText}, {"c1" + badText, api.ErrText},
		{"7f61ffff", api.ErrText}, {"7f61c361bcff", api.ErrText}, {"7f62c3bc61c3ff", api.ErrText}, {"7f61ff6161ff", api.ErrText}, {"7f62e6b061b4ff", api.ErrText},
		{"82" + equalKeys + badText, api.ErrText}, {"82" + badText + equalKeys, api.ErrText}, {"a30100010002" + badText, api.ErrText}, {"a2" + badText + "00" + badText + "00", api.ErrText}, {"a201" + badText + "0100", api.ErrText}, {"82" + equalKeys + "7f61c361bcff", api.ErrText},

		{equalKeys, api.ErrExists}, {"a301000200" + "0100", api.ErrExists}, {"bf01000101ff", api.ErrExists}, {"81" + equalKeys, api.ErrExists}, {"c1" + equalKeys, api.ErrExists}, {"a100" + equalKeys, api.ErrExists}, {"a1" + equalKeys + "00", api.ErrExists}, {"8200" + equalKeys, api.ErrExists},
		{"a21801000100", api.ErrExists}, {"a2190001001b000000000000000100", api.ErrExists}, {"a22000380000", api.ErrExists}, {"a2f93e0000fa3fc0000000", api.ErrExists}, {"a2f97e0100fbffffffffffffffff00", api.ErrExists},
		{"a241ff005f41ffff00", api.ErrExists}, {"a25f4101410240ff005f420102ff00", api.ErrExists}, {"a26161007f6161ff00", api.ErrExists}, {"a28101009f01ff00", api.ErrExists}, {"a2a10102" + "00bf0102ff00", api.ErrExists}, {"a2c10100d8011801" + "00", api.ErrExists},
		{"a2" + "a202000100" + "00" + "a201000200" + "00", api.ErrExists}, {"a2" + "81a202000100" + "00" + "81a201000200" + "00", api.ErrExists}, {"a2" + equalKeys + "00" + "0100", api.ErrExists},
	} {
		checkRefused(t, brief(c.code), unhex(c.code), c.e)
	}
}

// P2.3: keys that are alike, but not equal.
func TestKeysThatDiffer(t *testing.T) {
	for _, c := range [][2]string{
		{"a2" + "616100" + "416100", "a2" + "416100" + "616100"},
		{"a2" + "f9000000" + "0000", "a2" + "0000" + "f9000000"},
		{"a2" + "f9800000" + "fa0000000000", "a2" + "f9000000" + "f9800000"},
		{"a2" + "f93c0000" + "0100", "a2" + "0100" + "f93c0000"},
		{"a2" + "a1010200" + "a1010300", "a2" + "a1010200" + "a1010300"},
		{"a2" + "8000" + "a000", "a2" + "8000" + "a000"},
		{"a2" + "c10100" + "c20100", "a2" + "c10100" + "c20100"},
		{"a1" + "00" + "a10000", "a1" + "00" + "a10000"},
		{"82" + "a10000" + "a10000", "82" + "a10000" + "a10000"},
		{"a2" + "2000" + "180000", "a2" + "0000" + "2000"},
	} {
		checkCanon(t, unhex(c[0]), unhex(c[1]))
	}
}

// P2.3: the order of keys is that of their encodings in the end, not that of the bytes that were read.
func TestOrderOfKeys(t *testing.T) {
	keys := []string{"00", "1817", "1900ff", "1a00000100", "20", "40", "5f4101ff", "5802aabb", "7f6162ff", "626161", "9fff", "8100", "bfff", "a10000", "d80100", "f4", "fa3fc00000", "fb3ff199999999999a"}
	want := "b2"
	for _, k := range []string{"00", "17", "18ff", "190100", "20", "40", "4101", "42aabb", "6162", "626161", "80", "8100", "a0", "a10000", "c100", "f4", "f93e00", "fb3ff199999999999a"} {
		want += k + "6178"
	}
	for i := range keys {
		turned := slices.Concat(keys[i:], keys[:i])
		slices.Reverse(turned[:len(turned)/2])
		code := "bf" + strings.Join(turned, "6178") + "6178" + "ff"
		checkCanon(t, unhex(code), unhex(want))
	}
}

// P2.3: the limits of Item.
func TestLimitsOfItem(t *testing.T) {
	zeros := strings.Repeat("00", api.MaxBytes)
	for _, c := range []struct {
		name, code, want string
	}{
		{"a string of many bytes", "590ffd" + zeros[:2*0xffd], "590ffd" + zeros[:2*0xffd]},
		{"a string with a long head", "5b0000000000000ff7" + zeros[:2*0xff7], "590ff7" + zeros[:2*0xff7]},
		{"chunks of many bytes", "5f590ffa" + zeros[:2*0xffa] + "40ff", "590ffa" + zeros[:2*0xffa]},
		{"many elements", "9f" + strings.Repeat("1900ff", 255) + "ff", "98ff" + strings.Repeat("18ff", 255)},
		{"many chunks", "7f" + strings.Repeat("6161", 255) + "ff", "78ff" + strings.Repeat("61", 255)},
		{"the greatest depth", strings.Repeat("9f", 8) + strings.Repeat("ff", 8), "818181818181818" + "0"},
	} {
		if b, want := unhex(c.code), unhex(c.want); len(b) <= api.MaxBytes {
			checkCanon(t, b, want)
		} else {
			t.Errorf("%s: too long for this test", c.name)
		}
	}
	for _, c := range []struct {
		name string
		b    []byte
	}{
		{"zeros", make([]byte, api.MaxBytes+1)},
		{"reserved codes", bytes.Repeat([]byte{28}, api.MaxBytes+1)},
		{"a text that is not valid", append(unhex("61ff"), make([]byte, api.MaxBytes)...)},
		{"one string", append(unhex("590ffe"), make([]byte, api.MaxBytes-2)...)},
		{"a string with a long head", append(unhex("5b0000000000000ff8"), make([]byte, 0xff8)...)},
	} {
		checkRefused(t, "too many bytes: "+c.name, c.b, api.ErrLimit)
	}
	checkRefused(t, "MaxBytes zeros", make([]byte, api.MaxBytes), api.ErrMore)
	checkRefused(t, "MaxBytes reserved codes", bytes.Repeat([]byte{28}, api.MaxBytes), api.ErrCode)
}

// P2.2: forms of everything but floats, which are in TestHalves.
func TestForms(t *testing.T) {
	for _, c := range []struct {
		preferred, deterministic bool
		codes                    []string
	}{
		{true, true, []string{"00", "17", "1818", "18ff", "190100", "1a00010000", "1b0000000100000000", "20", "3818", "3901f3", "40", "4101", "60", "6161", "80", "8101", "a0", "a10102", "a201040203", "c001", "d81801", "e0", "f4", "f7", "f820", "f8ff", "f93e00", "fa47c35000", "fb3ff199999999999a", "f97e00", "f97c00", "f98000", "fa00000001", "fb0000000000000001"}},
		{true, false, []string{"a202030104", "a201010101", "a3000001000000", "61ff", "8161ff", "a161ff00", "63eda080", "62c080", "81a202030104", "c1a202030104", "a1a20203010400", "a220000000", "a2616100416100"}},
		{false, false, []string{"1800", "1817", "190000", "1900ff", "1a00000000", "1a0000ffff", "1b0000000000000000", "1b00000000ffffffff", "3800", "390000", "5800", "5801ff", "59000101", "780161", "9800", "980100", "9b000000000000000100", "b800", "b8010000", "ba000000010000", "d80100", "d9001800", "c11800", "811800", "a1180000", "a1001800", "a100a1001800"}},
		{false, false, []string{"9fff", "9f01ff", "bfff", "bf0102ff", "5fff", "5f4101ff", "7fff", "7f6161ff", "819fff", "a1009fff", "a15fff00", "c1bfff", "8240" + "7fff"}},
		{false, false, []string{"fa3fc00000", "fb3ff8000000000000", "fb40f86a0000000000", "f97e01", "f9fe00", "fa7fc00000", "fb7ff8000000000000", "fa7f800000", "fb7ff0000000000000", "fa80000000", "fb36a0000000000000", "81fa3fc00000", "a1fa3fc0000000", "a100fa3fc00000", "c1f97e01"}},
		{false, false, []string{"0000", "00ff", "a000", "a2020301041819", "4100ff", "", "ff", "1c", "18", "41", "81", "f800", "f814", "f81f", deepest + "80", "9fffff"}},
	} {
		for _, code := range c.codes {
			p, d := wellform.Preferred(unhex(code)), wellform.Deterministic(unhex(code))
			if p != c.preferred || d != c.deterministic {
				t.Errorf("%s: preferred %v, deterministic %v", code, p, d)
			}
		}
	}
}

// P2.2: the limits of Preferred and Deterministic.
func TestLimitsOfForms(t *testing.T) {
	fits := append(unhex("590ffd"), make([]byte, 0xffd)...)
	many := append(unhex("98ff"), make([]byte, 255)...)
	for _, c := range []struct {
		name string
		b    []byte
		want bool
	}{
		{"MaxBytes", fits, true},
		{"MaxBytes and one more", append(bytes.Clone(fits), 0), false},
		{"a string of too many bytes", append(unhex("590ffe"), make([]byte, 0xffe)...), false},
		{"MaxItems", many, true},
		{"too many items", append(unhex("990100"), make([]byte, 256)...), false},
		{"the greatest depth", unhex(deepest + "00"), true},
		{"too deep", unhex(deepest + "a0"), false},
	} {
		if p, d := wellform.Preferred(c.b), wellform.Deterministic(c.b); p != c.want || d != c.want {
			t.Errorf("%s: preferred %v, deterministic %v", c.name, p, d)
		}
	}
}

// halfValue is the number that a half stands for, by the definition of the format.
func halfValue(h uint16) float64 {
	f := float64(h & 0x3ff)
	switch e := int(h >> 10 & 31); {
	case e == 0:
		f = math.Ldexp(f, -24)
	case e < 31:
		f = math.Ldexp(f+1024, e-25)
	case f == 0:
		f = math.Inf(1)
	default:
		f = math.NaN()
	}
	if h>>15 == 1 {
		return math.Copysign(f, -1)
	}
	return f
}

func floatCode(first byte, size int, n uint64) []byte {
	b := []byte{first}
	for i := size - 1; i >= 0; i-- {
		b = append(b, byte(n>>(8*i)))
	}
	return b
}

// checkFloat checks what a float in some form means, and whether it is the preferred form.
func checkFloat(t *testing.T, code []byte, f float64) {
	t.Helper()
	want := math.Float64bits(f)
	if f != f {
		want = 0x7ff8000000000000
	}
	x, e := wellform.Item(code)
	if e != api.OK || !equal(x, api.Item{Kind: api.KindFloat, N: want}) {
		t.Fatalf("Item of %x: %v, error %d; want %x", code, x, e, want)
	}
	short, _ := cbor.Encode(x)
	if p := wellform.Preferred(code); p != bytes.Equal(short, code) || p != wellform.Deterministic(code) {
		t.Fatalf("%x is preferred: %v", code, p)
	}
}

// P2.2 and P2.3: every half, in each of the three formats.
func TestHalves(t *testing.T) {
	for i := range 1 << 16 {
		f := halfValue(uint16(i))
		checkFloat(t, floatCode(0xf9, 2, uint64(i)), f)
		checkFloat(t, floatCode(0xfa, 4, uint64(math.Float32bits(float32(f)))), f)
		checkFloat(t, floatCode(0xfb, 8, math.Float64bits(f)), f)
	}
}

// P2.2 and P2.3: singles and doubles with each exponent, those that are not numbers among them.
func TestSinglesAndDoubles(t *testing.T) {
	for exp := range uint64(2048) {
		for _, frac := range []uint64{0, 1, 1 << 28, 1 << 29, 1 << 30, 1 << 41, 1<<52 - 1<<29, 1<<52 - 1<<28, 1<<52 - 1} {
			n := exp&1<<63 | exp<<52 | frac
			checkFloat(t, floatCode(0xfb, 8, n), math.Float64frombits(n))
		}
	}
	for exp := range uint32(256) {
		for _, frac := range []uint32{0, 1, 2, 1 << 12, 1 << 13, 1 << 22, 1<<23 - 1<<13, 1<<23 - 1} {
			n := exp&1<<31 | exp<<23 | frac
			checkFloat(t, floatCode(0xfa, 4, uint64(n)), float64(math.Float32frombits(n)))
		}
	}
}

// scribble changes every byte and every item that a value consists of.
func scribble(x *api.Item) {
	for i := range x.Bytes {
		x.Bytes[i] = 0xee
	}
	for i := range x.Items {
		scribble(&x.Items[i])
	}
	x.N++
}

// R2: arguments are left as they are, and results are memory of their own.
func TestMemory(t *testing.T) {
	const code = "bf7f6161ff5f4101ff42aabb9f43010203ffa202030104c10041ff6162ff"
	b := unhex(code)
	b = append(b, 0, 0, 0)[:len(b)] // room that an append could write to
	x, e := wellform.Item(b)
	c, f := wellform.Canon(b)
	wellform.Scan(b)
	wellform.Preferred(b)
	wellform.Deterministic(b)
	if e != api.OK || f != api.OK || hex.EncodeToString(b[:len(b)+3]) != code+"000000" {
		t.Fatalf("errors %d and %d, argument %x", e, f, b)
	}
	clear(b)
	if again, _ := cbor.Encode(x); !bytes.Equal(again, c) {
		t.Error("a result shares memory with the argument")
	}
	again, _ := cbor.Encode(x)
	for i := range x.Items {
		scribble(&x.Items[i])
		for j, y := range x.Items[i+1:] {
			want, _ := cbor.Decode(again)
			if !equal(y, want.Items[i+1+j]) {
				t.Errorf("parts %d and %d share memory", i, i+1+j)
			}
		}
	}
}
