package diag_test

import (
	"math/rand"
	"slices"
	"strings"
	"testing"

	"coresec/api"
	"coresec/cbor"
	"coresec/diag"
)

// P3.2: what is no text of a valid item.
func TestSyntaxErrors(t *testing.T) {
	for _, s := range slices.Concat(wrongNumbers(), wrongStrings(), wrongNests()) {
		if x, e := diag.Parse(s); e != api.ErrSyntax || !equal(x, api.Item{}) {
			t.Errorf("Parse of %.80s: %v, error %d", s, x, e)
		}
	}
}

func wrongNumbers() []string {
	return []string{
		"", " ", "\n", "\x00", "x", "00", "01", "007", "+1", "1 ", " 1", "1\n", "1.0", "1e3", "0x1", "1_0", "0 0", "0,", "0, 0", "1)", "\u0661", "18446744073709551616", "18446744073709551625", "99999999999999999999999",
		strings.Repeat("0", 5000) + "1", strings.Repeat("9", 5000),
		"-", "--1", "- 1", "-0", "-01", "-00", "-18446744073709551617", "-018446744073709551616", "-99999999999999999999999", "-1(0)", "-a",
		"False", "TRUE", "nul", "nulll", "truefalse", "true ", "undefine", "undefined0", "true(0)",
		"simple", "simple(", "simple()", "simple(0", "simple( 0)", "simple(0 )", "simple(00)", "simple(-1)", "simple(20)", "simple(21)", "simple(22)", "simple(23)", "simple(24)", "simple(31)", "simple(256)", "simple(4294967296)", "simple(18446744073709551616)", "simple(false)", "Simple(0)", "simple (0)", "simple(0))",
		"float", "float'", "float''", "float'000000000000000'", "float'00000000000000000'", "float'0000000000000000", "float'0000000000000000' ", "float'3FF8000000000000'", "float'3ff800000000000g'", "float'+ff8000000000000'", `float"3ff8000000000000"`, "Float'3ff8000000000000'",
		"float'7ff8000000000001'", "float'fff8000000000000'", "float'7ff0000000000001'", "float'ffffffffffffffff'", "NaN", "Infinity",
	}
}

func wrongStrings() []string {
	return []string{
		"h", "h'", "'", "''", "h'0", "h'0'", "h'00", "h'000'", "h'0A'", "h'0g'", "h'g0'", "h' 00'", "h'00 '", "h'00 00'", "h''0", "H''", `h""`, "b64''", "h'00''",
		`"`, `"a`, `a"`, `""0`, `"""`, `"\"`, `"\\\"`, `"\`, `'a'`,
		`"\n"`, `"\a"`, `"\'"`, `"\/"`, `"\u"`, `"\u0"`, `"\u00"`, `"\u000"`, `"\u00a"`, `"\u000A"`, `"\u001F"`, `"\u007F"`, `"\U000a"`, `"\u0020"`, `"\u0022"`, `"\u005c"`, `"\u0061"`, `"\u0080"`, `"\u00ff"`, `"\u0100"`, `"\u2028"`, `"\u00g0"`,
		"\"\n\"", "\"\x00\"", "\"\x1f\"", "\"\x7f\"", "\"\\\n\"", "\"\\\x7f\"", "\"\\\u00fc\"",
		"\"\xff\"", "\"\xc3\"", "\"\xc0\x80\"", "\"\xed\xa0\x80\"", "\"\xf4\x90\x80\x80\"", "\xff", "\ufeff1",
		"h'" + strings.Repeat("00", 4094) + "'", `"` + strings.Repeat("a", 4094) + `"`, `"` + strings.Repeat("a", 100000), "h'" + strings.Repeat("00", 100000),
	}
}

func wrongNests() []string {
	return []string{
		"[", "]", "[]]", "[[]", "[1", "[1,", "[1, ", "[1, ]", "[,]", "[, 1]", "[1,2]", "[1 , 2]", "[1,  2]", "[1 2]", "[ 1]", "[1 ]", "[ ]", "[1; 2]", "[1}", "[01]", "[1, 2, ]", "[1, , 2]", "[_ 1]", "[1]0", "[1, ] 2]",
		"{", "}", "{}}", "{1}", "{1: }", "{1:2}", "{1 : 2}", "{1:  2}", "{1: 2", "{1: 2,", "{1: 2, ", "{1: 2, }", "{1: 2,3: 4}", "{1, 2}", "{: 2}", "{1: 2: 3}", "{ }", "{1: 2]", "{1: 2, 3}", "{1: 2, 3: }", "{, 1: 2}", "[1: 2]", "{1: 2 }", "{ 1: 2}",
		"{2: 0, 1: 0}", "{1: 0, 1: 0}", "{1: 0, 1: 1}", `{"aa": 0, "b": 0}`, "{-1: 0, 0: 0}", "{[]: 0, 0: 0}", "{24: 0, 23: 0}", "{1: {2: 0, 1: 0}}", "[{1: 0, 1: 0}]", "{{2: 0, 1: 0}: 0}", "1({1: 0, 1: 0})", "{float'3ff8000000000000': 0, float'3ff8000000000000': 0}", `{"a": 0, h'61': 0}`,
		"24()", "24(", "24(1", "24(1))", "24 (1)", "24( 1)", "24(1 )", "24(1, 2)", "024(1)", "-1(1)", "18446744073709551616(1)", "(1)", "24[1]", "h''(1)", "1(2)(3)",
		"[[[[[[[[[]]]]]]]]]", "[[[[[[[[{}]]]]]]]]", "1(2(3(4(5(6(7(8(9(0)))))))))", "{{{{{{{{{}: 0}: 0}: 0}: 0}: 0}: 0}: 0}: 0}", strings.Repeat("[", 1<<23), strings.Repeat("1(", 1<<23), strings.Repeat("{", 60000), strings.Repeat("{1: ", 60000),
		"[0" + strings.Repeat(", 0", 255) + "]", "[0" + strings.Repeat(", 0", 50000) + "]", "[0" + strings.Repeat(", 0", 50000),
		"[h'" + strings.Repeat("00", 2044) + "', h'" + strings.Repeat("00", 2046) + "']",
	}
}

// P3.2: the limits are reached, and not passed.
func TestLimitsOfParse(t *testing.T) {
	for _, s := range []string{
		"[[[[[[[[0]]]]]]]]", "[[[[[[[{}]]]]]]]", "{{{{{{{{}: 0}: 0}: 0}: 0}: 0}: 0}: 0}",
		"[0" + strings.Repeat(", 0", 254) + "]", "[h'" + strings.Repeat("00", 2044) + "', h'" + strings.Repeat("00", 2045) + "']",
	} {
		if x, e := diag.Parse(s); e != api.OK || !cbor.Valid(x) {
			t.Errorf("Parse of %.40s: error %d", s, e)
		}
	}
}

// checkText checks what holds for every string: Parse returns a valid item with this text, or ErrSyntax.
func checkText(t *testing.T, s string) bool {
	t.Helper()
	x, e := diag.Parse(s)
	if e == api.ErrSyntax && equal(x, api.Item{}) {
		return false
	}
	if p, f := diag.Print(x); e != api.OK || f != api.OK || p != s {
		t.Errorf("Parse of %s: %v, error %d; printed as %s, error %d", s, x, e, p, f)
	}
	return true
}

// Consequences: no other item and no other spelling has the same text. Every text is changed at every place.
func TestChangedTexts(t *testing.T) {
	const marks = "0129af'\"\\hu[]{}(),: -.etn_\x00\n\x7f\xc3"
	for _, c := range printedItems() {
		for i := range len(c.text) + 1 {
			if i < len(c.text) {
				checkText(t, c.text[:i]+c.text[i+1:])
				checkText(t, c.text[:i])
			}
			for _, m := range []byte(marks) {
				checkText(t, c.text[:i]+string([]byte{m})+c.text[i:])
				if i < len(c.text) {
					checkText(t, c.text[:i]+string([]byte{m})+c.text[i+1:])
				}
			}
		}
	}
}

// Consequences: short strings of the characters of texts; the texts of all items that have such a text are among them.
func TestShortStrings(t *testing.T) {
	const marks = "01-'\"\\h[]{}(),: "
	found := map[string]bool{}
	var extend func(s string, left int)
	extend = func(s string, left int) {
		if checkText(t, s) {
			found[s] = true
		}
		if left == 0 {
			return
		}
		for _, m := range marks {
			extend(s+string(m), left-1)
		}
	}
	extend("", 4)
	count := 0
	for _, x := range smallItems(marks) {
		if s, _ := diag.Print(x); len(s) <= 4 && strings.Trim(s, marks) == "" {
			count++
			if !found[s] {
				t.Errorf("%s is no text", s)
			}
		}
	}
	if count != len(found) || count < 200 {
		t.Errorf("texts of at most 4 characters: %d, want %d", len(found), count)
	}
}

// smallItems are different items, among them all with a text of at most four of the characters.
func smallItems(marks string) []api.Item {
	l := []api.Item{cbor.Bytes(nil), cbor.Text(""), mapOf(), cbor.Array()}
	for i := range uint64(1200) {
		l = append(l, cbor.Uint(i), nint(i), cbor.Array(cbor.Uint(i)), cbor.Array(nint(i)), tag(i, cbor.Uint(0)), tag(i, cbor.Uint(1)))
	}
	for _, a := range marks {
		l = append(l, cbor.Text(string(a)))
		for _, b := range marks {
			l = append(l, cbor.Text(string(a)+string(b)))
		}
	}
	return append(l, cbor.Array(cbor.Array()), cbor.Array(mapOf()), cbor.Array(cbor.Text("")))
}

// maker makes random items.
type maker struct{ *rand.Rand }

func (m maker) item(depth int) api.Item {
	n := m.Uint64() >> m.Intn(64)
	switch kind := m.Intn(9); kind {
	case api.KindNint:
		return nint(n)
	case api.KindBytes:
		b := make([]byte, m.Intn(6))
		m.Read(b)
		return cbor.Bytes(b)
	case api.KindText:
		return cbor.Text(m.text())
	case api.KindSimple:
		return simple([]uint64{0, 19, 20, 21, 22, 23, 32, 255}[m.Intn(8)])
	case api.KindFloat:
		return float(m.Uint64() &^ (1 << 62)) // of no great exponent, so it is a number
	case api.KindArray, api.KindMap, api.KindTag:
		if depth > 0 {
			return m.nest(kind, n, depth-1)
		}
	}
	return cbor.Uint(n)
}

func (m maker) nest(kind int, n uint64, depth int) api.Item {
	var l []api.Item
	switch kind {
	case api.KindTag:
		return tag(n, m.item(depth))
	case api.KindArray:
		for range m.Intn(4) {
			l = append(l, m.item(depth))
		}
		return cbor.Array(l...)
	}
	for range m.Intn(4) {
		l = append(l, m.item(depth), m.item(depth))
	}
	x, e := cbor.Build(l)
	if e != api.OK { // two keys are equal
		return mapOf()
	}
	return x
}

func (m maker) text() string {
	var s strings.Builder
	for range m.Intn(6) {
		switch m.Intn(3) {
		case 0:
			s.WriteByte(byte(m.Intn(128)))
		case 1:
			s.WriteByte("\"\\u'"[m.Intn(4)])
		default:
			s.WriteRune(rune(m.Intn(0xd800)))
		}
	}
	return s.String()
}

// Consequences: Parse returns what was printed, and different items have different texts.
func TestRandomItems(t *testing.T) {
	m := maker{rand.New(rand.NewSource(1))}
	codes := map[string]string{}
	for range 40000 {
		x := m.item(3)
		s, e := diag.Print(x)
		y, f := diag.Parse(s)
		if e != api.OK || f != api.OK || !equal(x, y) {
			t.Fatalf("%v: %s, error %d; parsed %v, error %d", x, s, e, y, f)
		}
		b, _ := cbor.Encode(x)
		if before, ok := codes[s]; ok && before != string(b) {
			t.Fatalf("%s is the text of %x and of %x", s, before, b)
		}
		codes[s] = string(b)
		i := m.Intn(len(s))
		checkText(t, s[:i]+string([]byte{byte(m.Intn(256))})+s[i+1:])
	}
	if len(codes) < 20000 {
		t.Error("different items:", len(codes))
	}
}
