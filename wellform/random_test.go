package wellform_test

import (
	"bytes"
	"math"
	"math/rand"
	"slices"
	"strings"
	"testing"

	"coresec/api"
	"coresec/cbor"
	"coresec/wellform"
)

// maker makes items together with one of their general forms.
type maker struct {
	*rand.Rand
	other bool // whether other forms than those of chapter 1 are made, the order of keys aside
	loose bool // whether one was made
}

// head returns a head with any of the possible lengths, the shortest one first.
func (m *maker) head(major int, n uint64) []byte {
	var forms [][]byte
	if n < 24 {
		forms = append(forms, []byte{byte(major<<5) | byte(n)})
	}
	for i, size := range []int{1, 2, 4, 8} {
		if size == 8 || n>>(8*size) == 0 {
			forms = append(forms, floatCode(byte(major<<5+24+i), size, n))
		}
	}
	if !m.other || m.Intn(3) > 0 {
		return forms[0]
	}
	i := m.Intn(len(forms))
	m.loose = m.loose || i > 0
	return forms[i]
}

// open reports whether an item gets an indefinite length.
func (m *maker) open() bool {
	open := m.other && m.Intn(3) == 0
	m.loose = m.loose || open
	return open
}

// list puts a head, or the byte of an indefinite length and a break, around parts.
func (m *maker) list(major, n int, parts ...[]byte) []byte {
	inner := slices.Concat(parts...)
	if m.open() {
		return slices.Concat([]byte{byte(major<<5 + 31)}, inner, []byte{255})
	}
	return append(m.head(major, uint64(n)), inner...)
}

// item returns an item, at most so deep, and its bytes.
func (m *maker) item(depth int) (api.Item, []byte) {
	kind := m.Intn(9)
	if depth == 0 && kind >= api.KindArray && kind <= api.KindTag {
		kind -= 4
	}
	n := m.Uint64() >> m.Intn(64)
	switch kind {
	case api.KindBytes, api.KindText:
		return m.text(kind)
	case api.KindArray:
		x := api.Item{Kind: kind}
		var parts [][]byte
		for range m.Intn(5) {
			y, b := m.item(depth - 1)
			x.Items, parts = append(x.Items, y), append(parts, b)
		}
		return x, m.list(kind, len(parts), parts...)
	case api.KindMap:
		return m.pairs(depth)
	case api.KindTag:
		y, b := m.item(depth - 1)
		return api.Item{Kind: kind, N: n, Items: []api.Item{y}}, append(m.head(kind, n), b...)
	case api.KindSimple:
		x := api.Item{Kind: kind, N: []uint64{0, 20, 21, 22, 23, 32, 255}[m.Intn(7)]}
		b, _ := cbor.Encode(x)
		return x, b
	case api.KindFloat:
		return m.float()
	}
	return api.Item{Kind: kind, N: n}, m.head(kind, n)
}

func (m *maker) text(kind int) (api.Item, []byte) {
	part := func() []byte { return []byte(strings.Repeat(string(rune(m.Intn(0xd800))), m.Intn(10))) }
	if !m.open() {
		s := part()
		return api.Item{Kind: kind, Bytes: s}, append(m.head(kind, uint64(len(s))), s...)
	}
	x := api.Item{Kind: kind}
	b := []byte{byte(kind<<5 + 31)}
	for range m.Intn(4) {
		s := part()
		x.Bytes = append(x.Bytes, s...)
		b = slices.Concat(b, m.head(kind, uint64(len(s))), s)
	}
	return x, append(b, 255)
}

func (m *maker) pairs(depth int) (api.Item, []byte) {
	var l []api.Item
	var parts [][]byte
	for range m.Intn(4) {
		before := m.loose
		key, b := m.item(depth - 1)
		value, c := m.item(depth - 1)
		if _, e := cbor.Build(append(slices.Clone(l), key, value)); e != api.OK {
			m.loose = before // this key is there already: the pair is dropped
			continue
		}
		l, parts = append(l, key, value), append(parts, slices.Concat(b, c))
	}
	m.Shuffle(len(parts), func(i, j int) { parts[i], parts[j] = parts[j], parts[i] })
	x, _ := cbor.Build(l)
	return x, m.list(api.KindMap, len(parts), parts...)
}

func (m *maker) float() (api.Item, []byte) {
	f := math.Ldexp(float64(m.Intn(5000)-2500), m.Intn(60)-30)
	if g := math.Float64frombits(m.Uint64()); m.Intn(2) == 0 && g == g {
		f = g
	}
	x := api.Item{Kind: api.KindFloat, N: math.Float64bits(f)}
	b, _ := cbor.Encode(x)
	if m.other && m.Intn(3) == 0 {
		b = floatCode(0xfb, 8, x.N)
		_, e := cbor.Decode(b)
		m.loose = m.loose || e != api.OK
	}
	return x, b
}

// P2.1 to P2.3: random items in random forms.
func TestRandomForms(t *testing.T) {
	r := rand.New(rand.NewSource(1))
	loose := 0
	for i := range 40000 {
		m := maker{Rand: r, other: i%2 == 0}
		x, b := m.item(3)
		want, _ := cbor.Encode(x)
		checkCanon(t, b, want)
		if p := wellform.Preferred(b); p == m.loose {
			t.Fatalf("%x is preferred: %v", b, p)
		}
		if d := wellform.Deterministic(b); d != bytes.Equal(b, want) {
			t.Fatalf("%x is deterministic: %v", b, d)
		}
		tail := make([]byte, r.Intn(10))
		r.Read(tail)
		if n, e := wellform.Scan(append(bytes.Clone(b), tail...)); n != len(b) || e != api.OK {
			t.Fatalf("Scan of %x and %x: %d, error %d", b, tail, n, e)
		}
		if n, e := wellform.Scan(b[:r.Intn(len(b))]); n != 0 || e != api.ErrShort {
			t.Fatalf("Scan of a part of %x: %d, error %d", b, n, e)
		}
		if m.loose {
			loose++
		}
		b[r.Intn(len(b))] ^= 1 << r.Intn(8)
		checkConsequences(t, b)
	}
	if loose < 5000 {
		t.Error("items in other forms:", loose)
	}
}

// checkConsequences checks what holds for all bytes.
func checkConsequences(t *testing.T, b []byte) {
	t.Helper()
	n, e := wellform.Scan(b)
	if e != api.OK && n != 0 || e == api.OK && (n < 1 || n > len(b)) {
		t.Fatalf("Scan of %x: %d, error %d", b, n, e)
	}
	if m, f := wellform.Scan(append(b[:n:n], 255)); e == api.OK && (m != n || f != api.OK) {
		t.Fatalf("Scan of %x alone: %d, error %d; want %d", b[:n], m, f, n)
	}
	whole := e == api.OK && n == len(b)
	p, d := wellform.Preferred(b), wellform.Deterministic(b)
	if p && !whole || d && !p {
		t.Fatalf("%x: Scan %d, error %d, preferred %v, deterministic %v", b, n, e, p, d)
	}
	c, f := wellform.Canon(b)
	switch {
	case e != api.OK && f != e, e == api.OK && !whole && f != api.ErrMore, whole && f != api.OK && f != api.ErrText && f != api.ErrExists:
		t.Fatalf("Canon of %x: error %d, but Scan: %d, error %d", b, f, n, e)
	case f == api.OK && (!wellform.Deterministic(c) || len(c) > len(b) || d != bytes.Equal(c, b)):
		t.Fatalf("Canon of %x: %x", b, c)
	case f == api.OK:
		checkCanon(t, c, c)
	}
}

// Consequences: all byte strings of two bytes, and longer ones of bytes that begin something.
func TestShortByteStrings(t *testing.T) {
	checkConsequences(t, nil)
	for i := range 1 << 16 {
		checkConsequences(t, []byte{byte(i >> 8), byte(i)})
	}
	telling := unhex("0001171819205859405f41424f606178797f61c3bc8081829fa0a1a2bfc0c1d8f4f8f920f97eff1cdf3f")
	slices.Sort(telling)
	telling = slices.Compact(telling)
	r := rand.New(rand.NewSource(2))
	for range 1000000 {
		b := make([]byte, 1+r.Intn(9))
		for i := range b {
			b[i] = telling[r.Intn(len(telling))]
		}
		checkConsequences(t, b)
	}
}
