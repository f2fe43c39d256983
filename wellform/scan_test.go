package wellform_test

import (
	"bytes"
	"encoding/hex"
	"strings"
	"testing"

	"coresec/api"
	"coresec/wellform"
)

func unhex(s string) []byte {
	b, err := hex.DecodeString(s)
	if err != nil {
		panic(err)
	}
	return b
}

// brief is how messages name an input, which may be long.
func brief(code string) string { return code[:min(len(code), 40)] }

// generalItems are general items in all forms, and what Canon returns for them.
func generalItems() [][2]string {
	return [][2]string{
		{"00", "00"}, {"17", "17"}, {"1800", "00"}, {"190000", "00"}, {"1a00000000", "00"}, {"1b0000000000000000", "00"},
		{"1817", "17"}, {"1818", "1818"}, {"1900ff", "18ff"}, {"190100", "190100"}, {"1a0000ffff", "19ffff"}, {"1a00010000", "1a00010000"}, {"1b00000000ffffffff", "1affffffff"}, {"1bffffffffffffffff", "1bffffffffffffffff"},
		{"20", "20"}, {"3817", "37"}, {"3818", "3818"}, {"390000", "20"}, {"3a000001f3", "3901f3"}, {"3b00000000000001f3", "3901f3"},
		{"40", "40"}, {"5800", "40"}, {"590001aa", "41aa"}, {"5a00000002aabb", "42aabb"}, {"5b0000000000000003aabbcc", "43aabbcc"},
		{"60", "60"}, {"780161", "6161"}, {"79000161", "6161"}, {"7a0000000161", "6161"}, {"7b0000000000000002c3bc", "62c3bc"},
		{"5fff", "40"}, {"5f40ff", "40"}, {"5f4040ff", "40"}, {"5f41014102ff", "420102"}, {"5f58010159000102ff", "420102"}, {"5f41ff41ffff", "42ffff"}, {"5f5a00000001015b000000000000000102ff", "420102"},
		{"7fff", "60"}, {"7f60ff", "60"}, {"7f61616162ff", "626162"}, {"7f78016179000162ff", "626162"}, {"7f62c3bc63e6b0b4ff", "65c3bce6b0b4"},
		{"80", "80"}, {"9800", "80"}, {"99000101", "8101"}, {"9a0000000101", "8101"}, {"9b0000000000000002" + "0102", "820102"}, {"9fff", "80"}, {"9f01ff", "8101"}, {"9f9fff9f9fffffff", "82808180"}, {"829fff01", "828001"}, {"9f8101a10102ff", "828101a10102"}, {"9f5fff7fffff", "824060"},
		{"a0", "a0"}, {"b800", "a0"}, {"b9000101" + "02", "a10102"}, {"ba000000010102", "a10102"}, {"bb00000000000000010102", "a10102"}, {"bfff", "a0"}, {"bf0102ff", "a10102"}, {"bf0a010203ff", "a202030a01"}, {"bf9fffbfffff", "a180a0"}, {"bf5f4101ff7fffff", "a1410160"},
		{"c001", "c001"}, {"d80001", "c001"}, {"d9001801", "d81801"}, {"da0000000001", "c001"}, {"db000000000000000001", "c001"}, {"dbffffffffffffffff01", "dbffffffffffffffff01"}, {"c19fff", "c180"}, {"c15f4101ff", "c14101"}, {"c1c118ff", "c1c118ff"},
		{"e0", "e0"}, {"f4", "f4"}, {"f7", "f7"}, {"f820", "f820"}, {"f8ff", "f8ff"},
		{"f93e00", "f93e00"}, {"fa3fc00000", "f93e00"}, {"fb3ff8000000000000", "f93e00"}, {"fa47c35000", "fa47c35000"}, {"fb40f86a0000000000", "fa47c35000"}, {"fb3ff199999999999a", "fb3ff199999999999a"},
		{"f98000", "f98000"}, {"fa80000000", "f98000"}, {"fb8000000000000000", "f98000"}, {"fa00000000", "f90000"}, {"fb0000000000000000", "f90000"}, {"fa00000001", "fa00000001"}, {"fb36a0000000000000", "fa00000001"}, {"fb3e70000000000000", "f90001"}, {"fa33800000", "f90001"}, {"fb0000000000000001", "fb0000000000000001"},
		{"f97c00", "f97c00"}, {"fa7f800000", "f97c00"}, {"fbfff0000000000000", "f9fc00"}, {"fb47efffffe0000000", "fa7f7fffff"},
		{"f97e00", "f97e00"}, {"f97e01", "f97e00"}, {"f97c01", "f97e00"}, {"f9fe00", "f97e00"}, {"f9ffff", "f97e00"}, {"fa7fc00000", "f97e00"}, {"fa7f800001", "f97e00"}, {"faffffffff", "f97e00"}, {"fb7ff8000000000000", "f97e00"}, {"fb7ff0000000000001", "f97e00"}, {"fbffffffffffffffff", "f97e00"},
		{"a2020301" + "04", "a201040203"}, {"a4616201626161022003" + "0a04", "a40a0420036162016261" + "6102"}, {"a24103014100" + "02", "a2410002410301"},
		{"a2a20201010000a20101020000", "a2a20100020100a20101020000"}, {"a1a2020301040a", "a1a20104" + "02030a"}, {"81a202030104", "81a201040203"}, {"c1a202030104", "c1a201040203"}, {"a101a202030104", "a101a201040203"},
		{"a21818001700", "a21700181800"}, {"a2190005001800" + "00", "a200000500"}, {"a2fb3ff800000000000000f93c0000", "a2f93c0000f93e0000"}, {"a25f4102ff005f4101ff00", "a2410100410200"},
	}
}

// P2.1: the length of general items, alone, with more bytes behind them, and cut off.
func TestScan(t *testing.T) {
	for _, c := range generalItems() {
		b := unhex(c[0])
		for _, tail := range []string{"", "00", "ff", "1c", "ffffff"} {
			if n, e := wellform.Scan(append(bytes.Clone(b), unhex(tail)...)); n != len(b) || e != api.OK {
				t.Errorf("Scan of %s and %s: %d, error %d", c[0], tail, n, e)
			}
		}
		for cut := range len(b) {
			if n, e := wellform.Scan(b[:cut]); n != 0 || e != api.ErrShort {
				t.Errorf("Scan of %s cut to %d bytes: %d, error %d", c[0], cut, n, e)
			}
		}
	}
}

// P2.1 and P2.2: what chapter 1 refuses is a general item, too.
func TestScanOfOtherKeysAndTexts(t *testing.T) {
	for _, c := range []string{"a201010101", "a3010002000100", "a200000000", "bf01010101ff", "61ff", "62c080", "7f61c361bcff", "a161ff61fe", "8161ff", "c161ff", "63eda080"} {
		if n, e := wellform.Scan(unhex(c)); n != len(c)/2 || e != api.OK {
			t.Errorf("Scan of %s: %d, error %d", c, n, e)
		}
	}
}

type failing struct {
	code string
	e    api.Errno
}

// checkFailing checks errors of Scan, which are those of Item and Canon, too.
func checkFailing(t *testing.T, list []failing) {
	t.Helper()
	for _, c := range list {
		b := unhex(c.code)
		if n, e := wellform.Scan(b); n != 0 || e != c.e {
			t.Errorf("Scan of %s: %d, error %d; want %d", brief(c.code), n, e, c.e)
		}
		checkRefused(t, brief(c.code), b, c.e)
		if wellform.Preferred(b) || wellform.Deterministic(b) {
			t.Errorf("%s is preferred or deterministic", brief(c.code))
		}
	}
}

// P2.1: errors of first bytes and heads.
func TestErrorsOfHeads(t *testing.T) {
	for first := range 256 {
		low, major := first&31, first>>5
		if low < 28 || low == 31 && major > 1 && major < 6 {
			continue
		}
		for _, tail := range []string{"", "00", "ff", "0000000000000000ff"} {
			checkFailing(t, []failing{{hex.EncodeToString([]byte{byte(first)}) + tail, api.ErrCode}})
		}
	}
	checkFailing(t, []failing{
		{"", api.ErrShort},
		{"18", api.ErrShort}, {"1901", api.ErrShort}, {"1a010000", api.ErrShort}, {"1b01000000000000", api.ErrShort},
		{"38", api.ErrShort}, {"5900", api.ErrShort}, {"7a000000", api.ErrShort}, {"9b00000000000000", api.ErrShort}, {"b8", api.ErrShort}, {"d900", api.ErrShort},
		{"f8", api.ErrShort}, {"f93e", api.ErrShort}, {"fa47c350", api.ErrShort}, {"fb3ff19999999999", api.ErrShort},
		{"f800", api.ErrForm}, {"f814", api.ErrForm}, {"f817", api.ErrForm}, {"f818", api.ErrForm}, {"f81f", api.ErrForm}, {"81f81f", api.ErrForm},
	})
}

// P2.1: errors of contents, elements and chunks.
func TestErrorsOfContents(t *testing.T) {
	checkFailing(t, []failing{
		{"4201", api.ErrShort}, {"6261", api.ErrShort}, {"580200", api.ErrShort}, {"590100", api.ErrShort}, {"5bffffffffffffffff00", api.ErrShort}, {"7b800000000000000061", api.ErrShort},
		{"81", api.ErrShort}, {"8201", api.ErrShort}, {"c1", api.ErrShort}, {"a1", api.ErrShort}, {"a101", api.ErrShort}, {"a2010102", api.ErrShort},
		{"9bffffffffffffffff", api.ErrShort}, {"bbffffffffffffffff", api.ErrShort}, {"bb8000000000000000", api.ErrShort}, {"bb8000000000000000" + "01", api.ErrShort},
		{"8181a10042", api.ErrShort}, {"a1001c", api.ErrCode}, {"c1f800", api.ErrForm}, {"bf00f800ff", api.ErrForm}, {"9ff800ff", api.ErrForm},
		{"5f01ff", api.ErrForm}, {"5f20ff", api.ErrForm}, {"5f6161ff", api.ErrForm}, {"5f80ff", api.ErrForm}, {"5fa0ff", api.ErrForm}, {"5fc001ff", api.ErrForm}, {"5ff4ff", api.ErrForm}, {"5ff93e00ff", api.ErrForm},
		{"7f01ff", api.ErrForm}, {"7f4161ff", api.ErrForm}, {"7f80ff", api.ErrForm}, {"7ff4ff", api.ErrForm},
		{"5f5fffff", api.ErrForm}, {"5f5f4101ffff", api.ErrForm}, {"7f7fffff", api.ErrForm}, {"5f7fffff", api.ErrForm}, {"7f5fffff", api.ErrForm}, {"5f9fffff", api.ErrForm}, {"5fbfffff", api.ErrForm},
		{"5f410161" + "61ff", api.ErrForm}, {"815f00ff", api.ErrForm},
		{"5f4101", api.ErrShort}, {"5f41014202", api.ErrShort}, {"5f58", api.ErrShort}, {"7f6261ff", api.ErrShort},
	})
}

// P2.1: where a break may stand.
func TestBreaks(t *testing.T) {
	checkFailing(t, []failing{
		{"ff", api.ErrCode}, {"81ff", api.ErrCode}, {"8201ff", api.ErrCode}, {"a1ff", api.ErrCode}, {"a101ff", api.ErrCode}, {"a20102ff", api.ErrCode}, {"c1ff", api.ErrCode},
		{"9f81ffff", api.ErrCode}, {"9fc1ffff", api.ErrCode}, {"bf01c1ffff", api.ErrCode}, {"bf01a101ff", api.ErrCode}, {"9fa101ffff", api.ErrCode},
		{"bf01ff", api.ErrForm}, {"bf010203ff", api.ErrForm}, {"bf9fffff", api.ErrForm}, {"bf5fffff", api.ErrForm}, {"81bf00ff", api.ErrForm}, {"bf01ffff", api.ErrForm},
		{"9f", api.ErrShort}, {"bf", api.ErrShort}, {"5f", api.ErrShort}, {"7f", api.ErrShort}, {"9f01", api.ErrShort}, {"bf01", api.ErrShort}, {"bf0102", api.ErrShort}, {"9f9fff", api.ErrShort}, {"819f", api.ErrShort},
	})
}

const deepest = "8181818181818181" // as many arrays as there may be

// P2.1: the limit of depth.
func TestDepth(t *testing.T) {
	for _, inner := range []string{"00", "1b0000000000000000", "4100", "5fff", "5f4100ff", "7f6161ff", "f820", "fb0000000000000000"} {
		code := deepest + inner
		if n, e := wellform.Scan(unhex(code)); n != len(code)/2 || e != api.OK {
			t.Errorf("Scan of %s: %d, error %d", code, n, e)
		}
	}
	for _, c := range []string{deepest[2:] + "80", strings.Repeat("9f", 8) + strings.Repeat("ff", 8), strings.Repeat("c1", 8) + "00", strings.Repeat("bf00", 8) + "00" + strings.Repeat("ff", 8), strings.Repeat("a100", 8) + "00", strings.Repeat("a1", 8) + strings.Repeat("00", 9), deepest[2:] + "a0", deepest[2:] + "9fff", deepest[2:] + "d81800"} {
		if n, e := wellform.Scan(unhex(c)); n != len(c)/2 || e != api.OK {
			t.Errorf("Scan of %s: %d, error %d", c, n, e)
		}
	}
	checkFailing(t, []failing{
		{deepest + "80", api.ErrLimit}, {deepest + "8100", api.ErrLimit}, {deepest + "a0", api.ErrLimit}, {deepest + "c100", api.ErrLimit}, {deepest + "9fff", api.ErrLimit}, {deepest + "bfff", api.ErrLimit},
		{strings.Repeat("9f", 9) + strings.Repeat("ff", 9), api.ErrLimit}, {strings.Repeat("bf00", 9), api.ErrLimit}, {strings.Repeat("c1", 9) + "00", api.ErrLimit}, {strings.Repeat("a1", 9), api.ErrLimit},
		{"c1c1c1c1c1c1c1c19fff", api.ErrLimit}, {"9f00" + deepest[2:] + "80ff", api.ErrLimit},
	})
	// Beside each other, items do not add to the depth.
	code := "83" + strings.Repeat(deepest[2:]+"00", 3)
	if n, e := wellform.Scan(unhex(code)); n != len(code)/2 || e != api.OK {
		t.Errorf("Scan of %s: %d, error %d", code, n, e)
	}
}

// P2.1: the limit of items; chunks count, breaks do not.
func TestNumberOfItems(t *testing.T) {
	for _, c := range []struct {
		before, each string
		count        int // how many more items may be begun
		after        string
	}{
		{"9f", "00", 255, "ff"}, {"5f", "40", 255, "ff"}, {"7f", "60", 255, "ff"}, {"bf", "00", 254, "ff"}, {"98ff", "00", 255, ""},
		{"9f9f", "00", 254, "ffff"}, {"9fbfff", "80", 254, "ff"}, {"9f5fff", "a0", 254, "ff"}, {"c1bf", "00", 254, "ff"}, {"b87f80", "00", 253, ""},
		{"9f5f4040ff7f60ff", "00", 250, "ff"},
	} {
		code := c.before + strings.Repeat(c.each, c.count) + c.after
		if n, e := wellform.Scan(unhex(code)); n != len(code)/2 || e != api.OK {
			t.Errorf("Scan of %s ..: %d, error %d; want %d", brief(code), n, e, len(code)/2)
		}
		more := strings.Repeat(c.each, c.count+2)
		checkFailing(t, []failing{{"8200" + c.before + more + c.after, api.ErrLimit}})
		if c.after != "" {
			checkFailing(t, []failing{{c.before + more + c.after, api.ErrLimit}})
		}
	}
	checkFailing(t, []failing{
		{"9f" + strings.Repeat("00", 256) + "ff", api.ErrLimit},
		{"5f" + strings.Repeat("40", 256) + "ff", api.ErrLimit},
		{"7f" + strings.Repeat("60", 256) + "ff", api.ErrLimit},
		{"990100" + strings.Repeat("00", 256), api.ErrLimit},
		{"9f5f4040ff7f60ff" + strings.Repeat("00", 251) + "ff", api.ErrLimit},
		{"bbffffffffffffffff" + strings.Repeat("00", 300), api.ErrLimit},
		{"9bffffffffffffffff" + strings.Repeat("00", 300), api.ErrLimit},
	})
}

// P2.1: of two errors of one item, the first one is returned.
func TestOrderOfErrors(t *testing.T) {
	full := "9f" + strings.Repeat("00", api.MaxItems-1)
	fullChunks := "5f" + strings.Repeat("40", api.MaxItems-1)
	fullMap := "bf" + strings.Repeat("00", api.MaxItems-1)
	checkFailing(t, []failing{
		{full, api.ErrLimit},               // and no byte is left
		{full + "1c", api.ErrLimit},        // and a reserved code
		{full + "f800", api.ErrLimit},      // and a simple value that is too small
		{fullChunks, api.ErrLimit},         // and no byte is left
		{fullChunks + "1c", api.ErrLimit},  // and a reserved code
		{fullChunks + "00", api.ErrLimit},  // and no chunk
		{fullMap, api.ErrLimit},            // and no byte is left
		{fullMap + "ff", api.ErrForm},      // a break is no item that could be one too many
		{"1c", api.ErrCode},                // and nothing follows
		{"5f1c", api.ErrCode},              // and no chunk
		{"5f5c", api.ErrCode},              // and no chunk
		{"5f1f", api.ErrCode},              // and no chunk
		{"5fdf", api.ErrCode},              // and no chunk
		{"5ffc", api.ErrCode},              // and no chunk
		{"5f19", api.ErrForm},              // and the head is not all there
		{"5f61", api.ErrForm},              // and the string is not all there
		{"7f58", api.ErrForm},              // and the head is not all there
		{"5f5f", api.ErrForm},              // and no break
		{"5ff8", api.ErrForm},              // and the head is not all there
		{"f8", api.ErrShort},               // before its value is looked at
		{deepest + "1c", api.ErrCode},      // no array, map or tag
		{deepest + "dfff", api.ErrCode},    // no tag
		{deepest + "ff", api.ErrCode},      // a break of nothing
		{deepest + "98", api.ErrShort},     // and too deep
		{deepest + "d900", api.ErrShort},   // and too deep
		{deepest + "81", api.ErrLimit},     // and no element
		{deepest + "9f1c", api.ErrLimit},   // and an element with an error
		{deepest + "bf00ff", api.ErrLimit}, // and a break in the wrong place
		{deepest + "5f00", api.ErrForm},    // a string is not deep
		{"82f8001c", api.ErrForm},          // the first element decides
		{"821cf800", api.ErrCode},          // the first element decides
		{"a21cf80000", api.ErrCode},        // the first element decides
		{"a2f8001c00", api.ErrForm},        // the first element decides
		{"5f410101" + "1c", api.ErrForm},   // the first chunk that is none decides
		{"5f41011c01", api.ErrCode},        // the first chunk that is none decides
		{"9f4201", api.ErrShort},           // and no break
		{"5f4201ff", api.ErrShort},         // the byte of a break is one of the chunk's
	})
}

// P2.1: what lies beyond MaxBytes does not exist.
func TestScanOfManyBytes(t *testing.T) {
	zeros := strings.Repeat("00", 2*api.MaxBytes)
	for _, c := range []struct {
		code string
		n    int
		e    api.Errno
	}{
		{"00" + zeros, 1, api.OK},
		{"590ffd" + zeros, api.MaxBytes, api.OK},
		{"590ffe" + zeros, 0, api.ErrShort},
		{"5a00000ffb" + zeros, api.MaxBytes, api.OK},
		{"5a00000ffc" + zeros, 0, api.ErrShort},
		{"5f590ffb" + zeros[:2*0xffb] + "ff" + zeros, api.MaxBytes, api.OK},
		{"5f590ffc" + zeros[:2*0xffc] + "ff" + zeros, 0, api.ErrShort},
		{"9f590ffb" + zeros[:2*0xffb] + "ff" + zeros, api.MaxBytes, api.OK},
		{"9f590ffc" + zeros[:2*0xffc] + "ff" + zeros, 0, api.ErrShort},
		{"82590ffb" + zeros[:2*0xffb] + "00" + zeros, api.MaxBytes, api.OK},
		{"82590ffc" + zeros[:2*0xffc] + "00" + zeros, 0, api.ErrShort},
		{"82590ffb" + zeros[:2*0xffb] + "1800" + zeros, 0, api.ErrShort},
	} {
		if n, e := wellform.Scan(unhex(c.code)); n != c.n || e != c.e {
			t.Errorf("Scan of %s ..: %d, error %d; want %d, %d", c.code[:16], n, e, c.n, c.e)
		}
	}
}
