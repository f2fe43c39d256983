package edwards_test

import (
	"bytes"
	"math/big"
	"math/rand"
	"strings"
	"testing"

	"coresec/api"
	"coresec/edwards"
)

// added returns the result of a call of Add that must succeed.
func added(t *testing.T, a, b api.Field) api.Field {
	t.Helper()
	out, e := edwards.Add(a, b)
	if e != api.OK {
		t.Fatalf("Add(%x, %x): error %d", a, b, e)
	}
	return out
}

// multiplied returns the result of a call of Mult that must succeed.
func multiplied(t *testing.T, k *big.Int, a api.Field) api.Field {
	t.Helper()
	out, e := edwards.Mult(element(k), a)
	if e != api.OK {
		t.Fatalf("Mult(%d, %x): error %d", k, a, e)
	}
	return out
}

// same tells of a result that is not the encoding of want.
func same(t *testing.T, name string, got api.Field, want point) {
	t.Helper()
	if got != encode(want) {
		t.Errorf("%s: %x, want %x", name, got, encode(want))
	}
}

// points returns points of all orders that there are: small ones, the base point, others, and sums of both.
func points(r *rand.Rand) []point {
	small, b := smallest(), base()
	out := append(small, b, opposite(b), sum(b, b))
	other := multiple(big.NewInt(8), somewhere(r))
	for _, a := range small {
		out = append(out, sum(b, a), sum(other, a))
	}
	return append(out, somewhere(r), somewhere(r))
}

// P10.1: the base point, which has the order q.
func TestBase(t *testing.T) {
	got := edwards.Base()
	if got != hx("58"+strings.Repeat("66", 31)) || edwards.Base() != got {
		t.Errorf("Base: %x", got)
	}
	same(t, "Base", got, base())
	if !edwards.Decodes(got) || edwards.Small(got) {
		t.Error("Base has a small order, or is no point")
	}
	if out := multiplied(t, order, got); out != (api.Field{1}) {
		t.Errorf("q times Base: %x", out)
	}
	same(t, "q - 1 times Base", multiplied(t, minus(order, one), got), opposite(base()))
	same(t, "q + 1 times Base", multiplied(t, plus(order, one), got), base())
}

// numbers returns numbers below 2^256 that are special as a y-coordinate, with bit 255 and without it.
func numbers() []api.Field {
	var low []*big.Int
	for i := range int64(60) {
		low = append(low, big.NewInt(i), minus(prime, big.NewInt(i+1)))
	}
	for i := range int64(19) {
		low = append(low, plus(prime, big.NewInt(i))) // up to 2^255 - 1
	}
	for i := 0; i < 255; i += 3 {
		low = append(low, power(i))
	}
	for _, p := range smallest() {
		for _, d := range []int64{-2, -1, 0, 1, 2} {
			low = append(low, modulo(plus(p.y, big.NewInt(d))))
		}
	}
	for _, d := range []int64{-2, -1, 0, 1, 2} {
		low = append(low, plus(base().y, big.NewInt(d)), plus(order, big.NewInt(d)))
	}
	var out []api.Field
	for _, n := range low {
		out = append(out, element(n), element(plus(n, power(255))))
	}
	return out
}

// P10.1: numbers that decode and others, with each of the reasons why one does not; all functions agree.
func TestDecodes(t *testing.T) {
	r := rand.New(rand.NewSource(100))
	all := numbers()
	for range 100 {
		all = append(all, api.Field(random(r, 32)))
	}
	yes, no := 0, 0
	for _, a := range all {
		p, want := decode(a)
		if got := edwards.Decodes(a); got != want {
			t.Errorf("Decodes(%x): %t", a, got)
		}
		if !want {
			no++
			refused(t, a)
			continue
		}
		yes++
		same(t, "Add of the neutral point", added(t, a, api.Field{1}), p)
		same(t, "once", multiplied(t, one, a), p)
	}
	if yes < 150 || no < 150 {
		t.Errorf("%d numbers decode, %d do not", yes, no)
	}
}

// refused checks that all functions refuse a number that does not decode, in each place, and have no other result.
func refused(t *testing.T, a api.Field) {
	t.Helper()
	if edwards.Decodes(a) || edwards.Small(a) {
		t.Errorf("%x decodes", a)
	}
	for _, b := range []api.Field{edwards.Base(), {1}, a} {
		for _, x := range [][2]api.Field{{a, b}, {b, a}} {
			if out, e := edwards.Add(x[0], x[1]); e != api.ErrKey || out != (api.Field{}) {
				t.Errorf("Add(%x, %x): %x, error %d", x[0], x[1], out, e)
			}
		}
		if out, e := edwards.Mult(b, a); e != api.ErrKey || out != (api.Field{}) {
			t.Errorf("Mult(%x, %x): %x, error %d", b, a, out, e)
		}
	}
	if out, e := edwards.Mult(api.Field{}, a); e != api.ErrKey || out != (api.Field{}) {
		t.Errorf("Mult(0, %x): %x, error %d", a, out, e)
	}
}

// P10.1: the three reasons why a number does not decode, each with a neighbor that does.
func TestRefused(t *testing.T) {
	p := api.Field(bytes.Repeat([]byte{255}, 32))
	p[0], p[31] = 0xed, 0x7f
	last := p
	last[0]--
	for _, a := range []api.Field{
		p,               // y is p, which would be 0
		{31: 128, 0: 1}, // x is 0, but bit 255 is 1
		{2},             // no square root
	} {
		refused(t, a)
	}
	for i := range byte(19) {
		a := p
		a[0] += i
		refused(t, a)
		a[31] |= 128
		refused(t, a)
	}
	minus := last
	minus[31] |= 128
	refused(t, minus)
	for _, a := range []api.Field{{}, {31: 128}, {1}, {3}, {3, 31: 128}, last} {
		if !edwards.Decodes(a) {
			t.Errorf("%x does not decode", a)
		}
	}
}

// P10.1: sums of points of all orders, compared with those of the chapter.
func TestAdd(t *testing.T) {
	all := points(rand.New(rand.NewSource(101)))
	for _, p := range all {
		for _, q := range append(all, p, opposite(p), sum(p, p)) {
			same(t, "Add", added(t, encode(p), encode(q)), sum(p, q))
		}
		if out := added(t, encode(p), encode(opposite(p))); out != (api.Field{1}) {
			t.Errorf("a point and its opposite: %x", out)
		}
	}
}

// factors returns numbers below 2^256 for which a multiple is special.
func factors() []*big.Int {
	var out []*big.Int
	for i := range int64(20) {
		out = append(out, big.NewInt(i))
	}
	for i := range int64(16) {
		for _, d := range []int64{-1, 0, 1} {
			if n := plus(times(order, big.NewInt(i)), big.NewInt(d)); n.Sign() >= 0 {
				out = append(out, n)
			}
		}
	}
	return append(out, power(252), prime, power(255), minus(power(255), one), minus(top, one))
}

// P10.1: multiples with any number, of points of all orders.
func TestMult(t *testing.T) {
	r := rand.New(rand.NewSource(102))
	all, some := points(r), factors()
	for _, k := range some {
		for _, p := range []point{base(), all[r.Intn(len(all))]} {
			same(t, k.String()+" times a point", multiplied(t, k, encode(p)), multiple(k, p))
		}
	}
	for _, p := range all {
		k := whole(random(r, 32))
		same(t, k.String()+" times a point", multiplied(t, k, encode(p)), multiple(k, p))
		if out := multiplied(t, times(order, big.NewInt(8)), encode(p)); out != (api.Field{1}) {
			t.Errorf("8 q times %x: %x", encode(p), out)
		}
	}
}

// P10.1: each bit of k counts, to 2^255.
func TestMultBits(t *testing.T) {
	p := somewhere(rand.New(rand.NewSource(103)))
	a, double := encode(p), p
	for i := range 256 {
		same(t, "2^"+big.NewInt(int64(i)).String()+" times a point", multiplied(t, power(i), a), double)
		double = sum(double, double)
	}
}

// P10.1: the eight points of small order, and no others: not those that differ by a multiple of the base point, and not other numbers for the same ones.
func TestSmall(t *testing.T) {
	r := rand.New(rand.NewSource(104))
	seen := map[api.Field]bool{}
	for i, p := range smallest() {
		a := encode(p)
		seen[a] = true
		if !edwards.Small(a) || multiplied(t, big.NewInt(8), a) != (api.Field{1}) {
			t.Errorf("%d: Small(%x) is false", i, a)
		}
		for _, k := range []*big.Int{one, big.NewInt(8), minus(order, one), whole(random(r, 8))} {
			other := encode(sum(p, multiple(k, base())))
			if edwards.Small(other) {
				t.Errorf("%d: Small(%x) is true, which is not of small order", i, other)
			}
		}
	}
	if len(seen) != 8 {
		t.Errorf("%d points", len(seen))
	}
	for _, s := range []string{ // as they are published
		"0100000000000000000000000000000000000000000000000000000000000000",
		"ecffffffffffffffffffffffffffffffffffffffffffffffffffffffffffff7f",
		"0000000000000000000000000000000000000000000000000000000000000000",
		"0000000000000000000000000000000000000000000000000000000000000080",
		"26e8958fc2b227b045c3f489f2ef98f0d5dfac05d3c63339b13802886d53fc05",
		"26e8958fc2b227b045c3f489f2ef98f0d5dfac05d3c63339b13802886d53fc85",
		"c7176a703d4dd84fba3c0b760d10670f2a2053fa2c39ccc64ec7fd7792ac037a",
		"c7176a703d4dd84fba3c0b760d10670f2a2053fa2c39ccc64ec7fd7792ac03fa",
	} {
		if !seen[hx(s)] || !edwards.Small(hx(s)) {
			t.Errorf("Small of %s is false", s)
		}
	}
	for _, a := range numbers() {
		if got := edwards.Small(a); got != seen[a] {
			t.Errorf("Small(%x): %t", a, got)
		}
	}
}

// Consequences: the laws of a group.
func TestGroup(t *testing.T) {
	r := rand.New(rand.NewSource(105))
	var all []api.Field
	for _, p := range points(r) {
		all = append(all, encode(p))
	}
	for range 300 {
		a, b, c := all[r.Intn(len(all))], all[r.Intn(len(all))], all[r.Intn(len(all))]
		if added(t, a, b) != added(t, b, a) {
			t.Errorf("%x and %x do not commute", a, b)
		}
		if added(t, added(t, a, b), c) != added(t, a, added(t, b, c)) {
			t.Errorf("%x, %x and %x are not associative", a, b, c)
		}
		if added(t, a, api.Field{1}) != a {
			t.Errorf("the neutral point changes %x", a)
		}
	}
	for _, a := range all {
		k, l := whole(random(r, 31)), whole(random(r, 31))
		if multiplied(t, plus(k, l), a) != added(t, multiplied(t, k, a), multiplied(t, l, a)) {
			t.Errorf("%d and %d times %x", k, l, a)
		}
		k, l = whole(random(r, 16)), whole(random(r, 16))
		if multiplied(t, times(k, l), a) != multiplied(t, k, multiplied(t, l, a)) {
			t.Errorf("%d times %d times %x", k, l, a)
		}
	}
}
