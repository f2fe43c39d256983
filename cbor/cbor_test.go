package cbor_test

import (
	"bytes"
	"math"
	"testing"

	"coresec/api"
	"coresec/cbor"
)

// P1.4: the items of the table, in the order of their encodings, against each other.
func TestCmp(t *testing.T) {
	for _, c := range codedItems() {
		for _, d := range codedItems() {
			if got, want := cbor.Cmp(c.item, d.item), bytes.Compare(unhex(c.code), unhex(d.code)); got != want {
				t.Errorf("Cmp of %s and %s: %d, want %d", c.name, d.name, got, want)
			}
		}
		bad := api.Item{Kind: 9}
		if cbor.Cmp(c.item, bad) != 0 || cbor.Cmp(bad, c.item) != 0 {
			t.Errorf("Cmp of %s and what is not valid is not 0", c.name)
		}
	}
	if cbor.Cmp(uintItem(10), nintItem(0)) != -1 || cbor.Cmp(text("b"), text("aa")) != -1 || cbor.Cmp(nintItem(0), uintItem(24)) != 1 || cbor.Cmp(list(), list()) != 0 {
		t.Error("Cmp does not compare the encodings")
	}
}

// permute calls f with the pairs in every order.
func permute(l []api.Item, n int, f func([]api.Item)) {
	if n == len(l)/2 {
		f(l)
		return
	}
	for i := n; i < len(l)/2; i++ {
		swap := func() {
			l[2*n], l[2*i] = l[2*i], l[2*n]
			l[2*n+1], l[2*i+1] = l[2*i+1], l[2*n+1]
		}
		swap()
		permute(l, n+1, f)
		swap()
	}
}

// P1.4: the order of the pairs does not matter.
func TestBuild(t *testing.T) {
	count := 0
	permute(sorted(), 0, func(l []api.Item) {
		count++
		if m, e := cbor.Build(l); e != api.OK || !equal(m, mapOf(sorted()...)) {
			t.Errorf("Build of %v: %v, error %d", l, m, e)
		}
	})
	if count != 720 {
		t.Error("orders:", count)
	}
	m, e := cbor.Build([]api.Item{uintItem(10), uintItem(1), uintItem(2), uintItem(3)})
	if b, _ := cbor.Encode(m); e != api.OK || !bytes.Equal(b, unhex("a202030a01")) {
		t.Errorf("Build of the example: %x, error %d", b, e)
	}
	if m, e := cbor.Build(nil); e != api.OK || !equal(m, mapOf()) {
		t.Errorf("Build of no pairs: %v, error %d", m, e)
	}
}

// sorted returns pairs with ascending keys.
func sorted() []api.Item {
	return []api.Item{uintItem(2), uintItem(3), uintItem(10), uintItem(1), uintItem(24), text("x"), nintItem(0), list(uintItem(4)), text("a"), uintItem(2), text("aa"), mapOf()}
}

// numbered returns n pairs with the keys from 0 on.
func numbered(n int) []api.Item {
	var l []api.Item
	for i := range n {
		l = append(l, uintItem(uint64(i)), uintItem(0))
	}
	return l
}

// P1.4: the errors of Build, in their order.
func TestErrorsOfBuild(t *testing.T) {
	bad := api.Item{Kind: 9}
	big := octets(2040)
	for _, c := range []struct {
		name  string
		pairs []api.Item
		e     api.Errno
	}{
		{"a key alone", zeros(1), api.ErrArg},
		{"equal keys and one more", zeros(5), api.ErrArg},
		{"a key that is not valid", []api.Item{bad, uintItem(0)}, api.ErrArg},
		{"a value that is not valid", []api.Item{uintItem(0), bad}, api.ErrArg},
		{"equal keys and a value that is not valid", []api.Item{uintItem(0), uintItem(0), uintItem(0), bad}, api.ErrArg},
		{"too many pairs and a value that is not valid", append(numbered(200), uintItem(500), bad), api.ErrArg},
		{"too many items", zeros(301), api.ErrArg},
		{"equal keys", zeros(4), api.ErrExists},
		{"equal keys and values that differ", []api.Item{text("a"), uintItem(1), uintItem(0), uintItem(1), text("a"), uintItem(2)}, api.ErrExists},
		{"equal keys that are no numbers", []api.Item{list(mapOf()), uintItem(1), list(mapOf()), uintItem(1)}, api.ErrExists},
		{"equal keys and too many pairs", append(numbered(200), uintItem(5), uintItem(0)), api.ErrExists},
		{"equal keys and too deep", []api.Item{uintItem(1), nested(8), uintItem(1), nested(8)}, api.ErrExists},
		{"as many items as are permitted", numbered(127), api.OK},
		{"a pair too many", numbered(128), api.ErrLimit},
		{"far too many pairs", numbered(100000), api.ErrLimit},
		{"as deep as is permitted", []api.Item{uintItem(1), nested(7), nested(7), uintItem(1)}, api.OK},
		{"a value that is too deep", []api.Item{uintItem(1), nested(8)}, api.ErrLimit},
		{"a key that is too deep", []api.Item{nested(8), uintItem(1)}, api.ErrLimit},
		{"as many bytes as are permitted", []api.Item{uintItem(1), big, uintItem(2), octets(4096 - 3 - 2043 - 3)}, api.OK},
		{"a byte too many", []api.Item{uintItem(1), big, uintItem(2), octets(4096 - 3 - 2043 - 3 + 1)}, api.ErrLimit},
	} {
		m, e := cbor.Build(c.pairs)
		if e != c.e || e != api.OK && !zero(m) || e == api.OK && !cbor.Valid(m) {
			t.Errorf("Build of %s: error %d, want %d", c.name, e, c.e)
		}
	}
}

// P1.4
func TestFind(t *testing.T) {
	m := mapOf(sorted()...)
	for i := 0; i < len(m.Items); i += 2 {
		if x, ok := cbor.Find(m, m.Items[i]); !ok || !equal(x, m.Items[i+1]) {
			t.Errorf("Find of %v: %v, %v", m.Items[i], x, ok)
		}
	}
	for _, c := range []struct {
		name   string
		m, key api.Item
	}{
		{"a key that is not there", m, uintItem(3)},
		{"a value", m, list(uintItem(4))},
		{"the bytes of a text", m, api.Item{Kind: api.KindBytes, Bytes: []byte("a")}},
		{"a key that is not valid", m, api.Item{Kind: 9}},
		{"a key in the empty map", mapOf(), uintItem(0)},
		{"a key in keys that descend", mapOf(uintItem(2), uintItem(0), uintItem(1), uintItem(0)), uintItem(2)},
		{"a key in equal keys", mapOf(zeros(4)...), uintItem(0)},
		{"a key in keys without a value", mapOf(zeros(3)...), uintItem(0)},
		{"a key beside a value that is not valid", mapOf(uintItem(0), uintItem(0), uintItem(1), simple(24)), uintItem(0)},
		{"an element of an array", list(zeros(2)...), uintItem(0)},
		{"a number in a number", uintItem(0), uintItem(0)},
		{"a key in a tag", tagged(0, mapOf(zeros(2)...)), uintItem(0)},
	} {
		if x, ok := cbor.Find(c.m, c.key); ok || !zero(x) {
			t.Errorf("Find of %s: %v, %v", c.name, x, ok)
		}
	}
}

// P1.5
func TestConstructors(t *testing.T) {
	bad := api.Item{Kind: 9, N: 3, Bytes: []byte{1}, Items: []api.Item{{Kind: -1}}}
	for _, c := range []struct {
		name      string
		got, want api.Item
	}{
		{"Uint(0)", cbor.Uint(0), api.Item{}},
		{"Uint(2^64 - 1)", cbor.Uint(math.MaxUint64), uintItem(math.MaxUint64)},
		{"Int(0)", cbor.Int(0), api.Item{}},
		{"Int(500)", cbor.Int(500), uintItem(500)},
		{"Int(2^63 - 1)", cbor.Int(math.MaxInt), uintItem(1<<63 - 1)},
		{"Int(-1)", cbor.Int(-1), nintItem(0)},
		{"Int(-500)", cbor.Int(-500), nintItem(499)},
		{"Int(-2^63)", cbor.Int(math.MinInt), nintItem(1<<63 - 1)},
		{"Bytes of nothing", cbor.Bytes(nil), octets(0)},
		{"Bytes", cbor.Bytes([]byte{0, 255}), api.Item{Kind: api.KindBytes, Bytes: []byte{0, 255}}},
		{"Bytes beyond the limit", cbor.Bytes(make([]byte, 5000)), octets(5000)},
		{"Text of nothing", cbor.Text(""), text("")},
		{"Text", cbor.Text("\u00fc"), api.Item{Kind: api.KindText, Bytes: []byte{0xc3, 0xbc}}},
		{"Text that is not valid", cbor.Text("\xff"), text("\xff")},
		{"Array of nothing", cbor.Array(), list()},
		{"Array", cbor.Array(uintItem(1), list(text("a"))), list(uintItem(1), list(text("a")))},
		{"Array of what is not valid", cbor.Array(bad), list(bad)},
		{"Array beyond the limit", cbor.Array(zeros(300)...), list(zeros(300)...)},
	} {
		if !equal(c.got, c.want) {
			t.Errorf("%s: %v, want %v", c.name, c.got, c.want)
		}
	}
}

// scribble changes every byte and every item that a value consists of.
func scribble(x *api.Item) {
	for i := range x.Bytes {
		x.Bytes[i] = 0xee
	}
	for i := range x.Items {
		scribble(&x.Items[i])
	}
	x.N++
}

// R2: results share no memory with arguments, and Encode returns new memory each time.
func TestNewMemory(t *testing.T) {
	raw := []byte{1, 2}
	x := list(api.Item{Kind: api.KindBytes, Bytes: raw}, text("a"))
	code, _ := cbor.Encode(x)
	again, _ := cbor.Encode(x)
	m, _ := cbor.Build([]api.Item{x, x})
	found, _ := cbor.Find(mapOf(uintItem(1), x), uintItem(1))
	decoded, _ := cbor.Decode(code)
	prefix, _, _ := cbor.Prefix(code)
	array := cbor.Array(x, x)
	octet := cbor.Bytes(raw)
	for _, y := range []*api.Item{&m, &found, &decoded, &prefix, &array, &octet} {
		scribble(y)
	}
	if want := unhex("824201026161"); !equal(x, list(cbor.Bytes([]byte{1, 2}), text("a"))) || !bytes.Equal(code, want) {
		t.Errorf("a result shares memory with an argument: %v, %x", x, code)
	}
	clear(code)
	if !bytes.Equal(again, unhex("824201026161")) {
		t.Errorf("two encodings share memory: %x", again)
	}
}

// R2: parts of a result share no memory with each other.
func TestPartsShareNoMemory(t *testing.T) {
	x := list(text("a"))
	m, _ := cbor.Build([]api.Item{uintItem(1), x, uintItem(2), x, x, x})
	array := cbor.Array(uintItem(1), x, uintItem(2), x, x, x)
	for _, y := range []api.Item{m, array} {
		for i := range y.Items {
			if i != 0 && i != 2 && !equal(y.Items[i], list(text("a"))) {
				t.Errorf("part %d shares memory with a part before it: %v", i, y)
			}
			scribble(&y.Items[i])
		}
	}
}

// R2: Build sorts a copy.
func TestBuildLeavesItsArgument(t *testing.T) {
	l := []api.Item{uintItem(2), uintItem(0), uintItem(1), uintItem(5)}
	if _, e := cbor.Build(l); e != api.OK || !equal(list(l...), list(uintItem(2), uintItem(0), uintItem(1), uintItem(5))) {
		t.Errorf("Build changes its argument: %v", l)
	}
}
