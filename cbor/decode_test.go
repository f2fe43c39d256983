package cbor_test

import (
	"bytes"
	"math"
	"math/rand"
	"strings"
	"testing"

	"coresec/api"
	"coresec/cbor"
)

type failing struct {
	code string
	e    api.Errno
}

func checkFailing(t *testing.T, list []failing) {
	t.Helper()
	for _, c := range list {
		b := unhex(c.code)
		name := c.code[:min(len(c.code), 24)]
		if x, n, e := cbor.Prefix(b); e != c.e || n != 0 || !zero(x) {
			t.Errorf("Prefix of %s: %v, %d bytes, error %d; want %d", name, x, n, e, c.e)
		}
		if x, e := cbor.Decode(b); e != c.e || !zero(x) {
			t.Errorf("Decode of %s: %v, error %d; want %d", name, x, e, c.e)
		}
	}
}

// P1.2: errors of a head.
func TestErrorsOfHeads(t *testing.T) {
	checkFailing(t, []failing{
		{"", api.ErrShort},
		{"1c", api.ErrCode}, {"1d", api.ErrCode}, {"1e", api.ErrCode}, {"1f", api.ErrCode},
		{"3c", api.ErrCode}, {"5f", api.ErrCode}, {"7f", api.ErrCode}, {"9f", api.ErrCode}, {"bf", api.ErrCode}, {"dc", api.ErrCode}, {"fc", api.ErrCode}, {"ff", api.ErrCode},
		{"18", api.ErrShort}, {"1901", api.ErrShort}, {"1a010000", api.ErrShort}, {"1b01000000000000", api.ErrShort},
		{"f8", api.ErrShort}, {"f93e", api.ErrShort}, {"fa47c350", api.ErrShort}, {"fb3ff19999999999", api.ErrShort},
		{"1800", api.ErrForm}, {"1817", api.ErrForm}, {"190000", api.ErrForm}, {"1900ff", api.ErrForm}, {"1a0000ffff", api.ErrForm}, {"1b00000000ffffffff", api.ErrForm},
		{"3817", api.ErrForm}, {"580100", api.ErrForm}, {"780161", api.ErrForm}, {"980100", api.ErrForm}, {"b8010000", api.ErrForm}, {"d80100", api.ErrForm},
	})
}

// P1.2: errors of simple values and floats.
func TestErrorsOfSimpleValues(t *testing.T) {
	checkFailing(t, []failing{
		{"f800", api.ErrForm}, {"f814", api.ErrForm}, {"f817", api.ErrForm}, {"f818", api.ErrForm}, {"f81f", api.ErrForm},
		{"f97e01", api.ErrForm}, {"f97c01", api.ErrForm}, {"f9fe00", api.ErrForm}, {"f97fff", api.ErrForm},
		{"fa3fc00000", api.ErrForm}, {"fa00000000", api.ErrForm}, {"fa80000000", api.ErrForm}, {"fa7f800000", api.ErrForm}, {"faff800000", api.ErrForm},
		{"fa7fc00000", api.ErrForm}, {"fa7fc00001", api.ErrForm}, {"faffc00000", api.ErrForm}, {"fa7f800001", api.ErrForm},
		{"fb3ff8000000000000", api.ErrForm}, {"fb40f86a0000000000", api.ErrForm}, {"fb7ff0000000000000", api.ErrForm}, {"fb0000000000000000", api.ErrForm}, {"fb36a0000000000000", api.ErrForm},
		{"fb7ff8000000000000", api.ErrForm}, {"fb7ff8000000000001", api.ErrForm}, {"fb7ff0000000000001", api.ErrForm},
	})
}

// P1.2: errors of strings, and of items in items.
func TestErrorsOfContents(t *testing.T) {
	checkFailing(t, []failing{
		{"4201", api.ErrShort}, {"6261", api.ErrShort}, {"590100", api.ErrShort}, {"5bffffffffffffffff00", api.ErrShort}, {"7b800000000000000061", api.ErrShort},
		{"61ff", api.ErrText}, {"62c080", api.ErrText}, {"63eda080", api.ErrText}, {"64f4908080", api.ErrText},
		{"81", api.ErrShort}, {"8201", api.ErrShort}, {"c1", api.ErrShort}, {"a1", api.ErrShort}, {"a101", api.ErrShort}, {"a2010102", api.ErrShort},
		{"9bffffffffffffffff", api.ErrShort}, {"bbffffffffffffffff", api.ErrShort}, {"bb8000000000000000", api.ErrShort}, {"bb8000000000000001", api.ErrShort},
		{"811817", api.ErrForm}, {"c161ff", api.ErrText}, {"a161ff00", api.ErrText}, {"a1001c", api.ErrCode}, {"8181a10042", api.ErrShort},
		{"a201010101", api.ErrExists}, {"a3000001010102", api.ErrExists}, {"a280008000", api.ErrExists}, {"81a1a20000000000", api.ErrExists},
		{"a202010101", api.ErrOrder}, {"a3010002000100", api.ErrOrder}, {"a220010001", api.ErrOrder}, {"a262616100616200", api.ErrOrder}, {"a100a201010001", api.ErrOrder},
	})
}

// P1.2: the limits; the last values that are permitted are in TestLimitsOfItems.
func TestLimitsOfPrefix(t *testing.T) {
	checkFailing(t, []failing{
		{strings.Repeat("81", api.MaxDepth+1) + "00", api.ErrLimit},
		{strings.Repeat("c1", api.MaxDepth+1) + "00", api.ErrLimit},
		{strings.Repeat("a100", api.MaxDepth+1) + "00", api.ErrLimit},
		{strings.Repeat("81", api.MaxDepth) + "80", api.ErrLimit},
		{strings.Repeat("81", api.MaxDepth) + "a0", api.ErrLimit},
		{"a1" + strings.Repeat("81", api.MaxDepth) + "0000", api.ErrLimit},
		{"990100" + strings.Repeat("00", api.MaxItems), api.ErrLimit},
		{"81990100" + strings.Repeat("00", api.MaxItems), api.ErrLimit},
	})
}

// P1.2: of two errors of one item, the first one is returned.
func TestOrderOfErrors(t *testing.T) {
	full := "990100" + strings.Repeat("00", api.MaxItems-1)
	deepest := strings.Repeat("81", api.MaxDepth)
	checkFailing(t, []failing{
		{full, api.ErrLimit},                 // and no byte is left
		{full + "1c", api.ErrLimit},          // and a reserved code
		{full + "1817", api.ErrLimit},        // and a number in too many bytes
		{"1c", api.ErrCode},                  // and no bytes follow
		{"1900", api.ErrShort},               // and the number needs fewer bytes
		{"fa3fc0", api.ErrShort},             // and the float has a shorter form
		{deepest + "1c", api.ErrCode},        // no array, map or tag
		{deepest + "9f", api.ErrCode},        // and too deep
		{deepest + "98", api.ErrShort},       // and too deep
		{deepest + "9801", api.ErrForm},      // and too deep
		{deepest + "81", api.ErrLimit},       // and no element
		{deepest + "c11c", api.ErrLimit},     // and an element with an error
		{"5801", api.ErrForm},                // and the string is not there
		{"7801ff", api.ErrForm},              // and not a text
		{"62ff", api.ErrShort},               // and not a text
		{"8218011c", api.ErrForm},            // the first element decides
		{"821c1801", api.ErrCode},            // the first element decides
		{"a20000001c", api.ErrExists},        // and a value with an error
		{"a2000000", api.ErrExists},          // and no value
		{"a2010000", api.ErrOrder},           // and no value
		{"a20100001c", api.ErrOrder},         // and a value with an error
		{"a2011c01", api.ErrCode},            // the first value comes before the second key
		{"a201001801", api.ErrForm},          // a key that cannot be read is not compared
		{"a3010000000000", api.ErrOrder},     // the second key comes before the third
		{"a301000100" + "00", api.ErrExists}, // the second key comes before the third
	})
}

// P1.2: what lies beyond MaxBytes does not exist.
func TestPrefixOfManyBytes(t *testing.T) {
	fits := append(unhex("590ffd"), make([]byte, api.MaxBytes-3)...)
	for _, more := range []int{0, 1, 5000} {
		x, n, e := cbor.Prefix(append(bytes.Clone(fits), make([]byte, more)...))
		if e != api.OK || n != api.MaxBytes || len(x.Bytes) != api.MaxBytes-3 {
			t.Errorf("Prefix of MaxBytes and %d more: %d bytes, error %d", more, n, e)
		}
	}
	for _, c := range []struct {
		code string
		e    api.Errno
	}{{"590ffe", api.ErrShort}, {"8240590ffb", api.OK}, {"8240590ffc", api.ErrShort}, {"82590ffb", api.OK}, {"82590ffc", api.ErrShort}, {"a1590ffb", api.OK}, {"a1590ffc", api.ErrShort}} {
		b := append(unhex(c.code), make([]byte, 2*api.MaxBytes)...)
		_, n, e := cbor.Prefix(b)
		if e != c.e || e == api.OK && n != api.MaxBytes || e != api.OK && n != 0 {
			t.Errorf("Prefix of %s and many zeros: %d bytes, error %d; want %d", c.code, n, e, c.e)
		}
	}
}

// P1.3
func TestErrorsOfDecode(t *testing.T) {
	for _, c := range []struct {
		name string
		b    []byte
		e    api.Errno
	}{
		{"two items", []byte{0, 0}, api.ErrMore},
		{"an item and a reserved code", []byte{0, 0xff}, api.ErrMore},
		{"an error and more bytes", []byte{0x18, 0x17, 0}, api.ErrForm},
		{"a map with equal keys and more bytes", unhex("a20101010100"), api.ErrExists},
		{"too many bytes", make([]byte, api.MaxBytes+1), api.ErrLimit},
		{"too many bytes and an error", bytes.Repeat([]byte{0xff}, api.MaxBytes+1), api.ErrLimit},
		{"an item of too many bytes", append(unhex("590ffe"), make([]byte, api.MaxBytes-2)...), api.ErrLimit},
		{"MaxBytes and an error", bytes.Repeat([]byte{0xff}, api.MaxBytes), api.ErrCode},
		{"MaxBytes and more", make([]byte, api.MaxBytes), api.ErrMore},
	} {
		if x, e := cbor.Decode(c.b); e != c.e || !zero(x) {
			t.Errorf("Decode of %s: %v, error %d; want %d", c.name, x, e, c.e)
		}
	}
}

// Consequences: what is accepted is what Encode returns, for all short byte strings.
func TestShortByteStrings(t *testing.T) {
	b := make([]byte, 3)
	for i := range 1 << 24 {
		b[0], b[1], b[2] = byte(i>>16), byte(i>>8), byte(i)
		if i&0xffff != 0 && b[0]&31 < 24 && b[0]>>5 < 2 {
			continue // one byte: the others do not matter
		}
		x, n, e := cbor.Prefix(b)
		if e != api.OK {
			continue
		}
		if c, e := cbor.Encode(x); e != api.OK || !bytes.Equal(c, b[:n]) {
			t.Fatalf("Encode of what was read from %x: %x, error %d", b, c, e)
		}
	}
}

// randomItem returns a valid item, within the limits for depths up to 3.
func randomItem(r *rand.Rand, depth int) api.Item {
	kind := r.Intn(9)
	if depth == 0 && kind >= api.KindArray && kind <= api.KindTag {
		kind -= 4
	}
	n := r.Uint64() >> r.Intn(64)
	switch kind {
	case api.KindBytes:
		b := make([]byte, r.Intn(30))
		r.Read(b)
		return api.Item{Kind: kind, Bytes: b}
	case api.KindText:
		return text(strings.Repeat(string(rune(r.Intn(0xd800))), r.Intn(10)))
	case api.KindArray:
		x := list()
		for range r.Intn(5) {
			x.Items = append(x.Items, randomItem(r, depth-1))
		}
		return x
	case api.KindMap:
		for {
			var l []api.Item
			for range 2 * r.Intn(3) {
				l = append(l, randomItem(r, depth-1))
			}
			if x, e := cbor.Build(l); e == api.OK {
				return x
			}
		}
	case api.KindTag:
		return tagged(n, randomItem(r, depth-1))
	case api.KindSimple:
		return simple([]uint64{0, 20, 21, 22, 23, 32, 255}[r.Intn(7)])
	case api.KindFloat:
		if f := math.Float64frombits(r.Uint64()); r.Intn(2) == 0 && f == f {
			return float(f)
		}
		return float(math.Ldexp(float64(r.Intn(5000)-2500), r.Intn(60)-30))
	}
	return api.Item{Kind: kind, N: n}
}

// Consequences: items and encodings determine each other.
func TestRandomItems(t *testing.T) {
	r := rand.New(rand.NewSource(1))
	for range 20000 {
		x := randomItem(r, 3)
		b, e := cbor.Encode(x)
		if e != api.OK || cbor.Size(x) != len(b) {
			t.Fatalf("Encode of %v: error %d", x, e)
		}
		if y, e := cbor.Decode(b); e != api.OK || !equal(x, y) {
			t.Fatalf("Decode of %x: %v, error %d; want %v", b, y, e, x)
		}
		tail := make([]byte, r.Intn(20))
		r.Read(tail)
		if y, n, e := cbor.Prefix(append(bytes.Clone(b), tail...)); e != api.OK || n != len(b) || !equal(x, y) {
			t.Fatalf("Prefix of %x and %x: %v, %d bytes, error %d", b, tail, y, n, e)
		}
		i := r.Intn(len(b))
		b[i] ^= 1 << r.Intn(8)
		y, n, e := cbor.Prefix(b)
		if c, f := cbor.Encode(y); e == api.OK && (f != api.OK || !bytes.Equal(c, b[:n]) || equal(x, y)) {
			t.Fatalf("what was read from %x is encoded as %x, error %d", b, c, f)
		}
	}
}
