package field_test

import (
	"bytes"
	"math/big"
	"math/rand"
	"slices"
	"testing"

	"coresec/api"
	"coresec/field"
)

var (
	zero  = big.NewInt(0)
	one   = big.NewInt(1)
	top   = power(256)
	prime = number("57896044618658097711785492504343953926634992332820282019728792003956564819949")
	order = number("7237005577332262213973186563042994240857116359379907606001950938285454250989")
)

func number(s string) *big.Int {
	n, ok := new(big.Int).SetString(s, 10)
	if !ok {
		panic(s)
	}
	return n
}

// power returns 2^n.
func power(n int) *big.Int { return new(big.Int).Lsh(one, uint(n)) }

func plus(a, b *big.Int) *big.Int   { return new(big.Int).Add(a, b) }
func minus(a, b *big.Int) *big.Int  { return new(big.Int).Sub(a, b) }
func times(a, b *big.Int) *big.Int  { return new(big.Int).Mul(a, b) }
func modulo(a, m *big.Int) *big.Int { return new(big.Int).Mod(a, m) }

// whole returns the number of x, which this adds up byte by byte.
func whole(x api.Field) *big.Int {
	n := new(big.Int)
	for i, c := range x {
		n.Add(n, times(big.NewInt(int64(c)), power(8*i)))
	}
	return n
}

// little returns the bytes of a number, the least significant one first.
func little(n *big.Int, size int) []byte {
	b := n.FillBytes(make([]byte, size))
	slices.Reverse(b)
	return b
}

// element returns the field element of the bytes of a number below 2^256.
func element(n *big.Int) api.Field { return api.Field(little(n, 32)) }

// same tells of a result that is not the number want.
func same(t *testing.T, name string, got api.Field, want *big.Int) {
	t.Helper()
	if got != element(want) {
		t.Errorf("%s: %d, want %d", name, whole(got), want)
	}
}

// random returns a number below m.
func random(r *rand.Rand, m *big.Int) *big.Int { return new(big.Int).Rand(r, m) }

// around returns the numbers below 2^256 that are at most d away from n.
func around(n *big.Int, d int64) []*big.Int {
	var out []*big.Int
	for i := -d; i <= d; i++ {
		if m := plus(n, big.NewInt(i)); m.Sign() >= 0 && m.Cmp(top) < 0 {
			out = append(out, m)
		}
	}
	return out
}

// edges returns the numbers around the multiples of p and q and around powers of 2, and those whose words are extreme.
func edges() []*big.Int {
	var out []*big.Int
	for _, n := range []*big.Int{zero, prime, times(prime, big.NewInt(2)), top, order, power(252)} {
		out = append(out, around(n, 40)...)
	}
	for i := range int64(16) {
		out = append(out, around(times(order, big.NewInt(i)), 2)...)
	}
	for i := range 256 {
		out = append(out, around(power(i), 1)...)
	}
	words := []*big.Int{zero, one, minus(power(63), one), power(63), minus(power(64), one)}
	for i := range 5 * 5 * 5 * 5 {
		n := new(big.Int)
		for range 4 {
			n.Lsh(n, 64).Add(n, words[i%5])
			i /= 5
		}
		out = append(out, n)
	}
	return out
}

// some returns n of the edges and n random numbers.
func some(r *rand.Rand, n int) []*big.Int {
	all := edges()
	var out []*big.Int
	for range n {
		out = append(out, all[r.Intn(len(all))], random(r, top))
	}
	return out
}

// both returns the numbers below 2^256 that are n modulo p.
func both(n *big.Int) []*big.Int {
	var out []*big.Int
	for m := modulo(n, prime); m.Cmp(top) < 0; m = plus(m, prime) {
		out = append(out, m)
	}
	return out
}

// P8.1: the numbers around p, and all others that are special.
func TestCanonical(t *testing.T) {
	for _, n := range append(edges(), some(rand.New(rand.NewSource(8)), 500)...) {
		x := element(n)
		if got, want := field.Canonical(x), n.Cmp(prime) < 0; got != want {
			t.Errorf("Canonical(%d): %t", n, got)
		}
		same(t, "Reduce of "+n.String(), field.Reduce(x), modulo(n, prime))
	}
}

// P8.1: examples with bytes, not numbers: the least significant byte is the first one.
func TestBytes(t *testing.T) {
	p := api.Field(bytes.Repeat([]byte{255}, 32))
	p[0], p[31] = 0xed, 0x7f
	less, more := p, p
	less[0]--
	more[0]++
	if !field.Canonical(less) || field.Canonical(p) || field.Canonical(more) || !field.Canonical(api.Field{}) {
		t.Error("Canonical around p")
	}
	if field.Reduce(less) != less || field.Reduce(p) != (api.Field{}) || field.Reduce(more) != (api.Field{1}) {
		t.Error("Reduce around p")
	}
	if got := field.Reduce(api.Field(bytes.Repeat([]byte{255}, 32))); got != (api.Field{37}) {
		t.Errorf("Reduce of all bits: %x", got)
	}
	if got := field.Reduce(api.Field{31: 128}); got != (api.Field{19}) {
		t.Errorf("Reduce of 2^255: %x", got)
	}
	if !field.Less(api.Field{255}, api.Field{1: 1}) || field.Less(api.Field{31: 1}, api.Field{1}) {
		t.Error("Less takes the first byte for the most significant one")
	}
	for i := range 32 {
		for j := range 32 {
			var a, b api.Field
			a[i], b[j] = 200, 7
			if got, want := field.Less(a, b), i < j; got != want {
				t.Errorf("Less with byte %d and with byte %d: %t", i, j, got)
			}
		}
	}
}

// P8.1: pairs of numbers that are near each other, equal, or anything; none is reduced.
func TestLess(t *testing.T) {
	r := rand.New(rand.NewSource(81))
	compare := func(a, b *big.Int) {
		if got, want := field.Less(element(a), element(b)), a.Cmp(b) < 0; got != want {
			t.Errorf("Less(%d, %d): %t", a, b, got)
		}
	}
	for _, n := range edges() {
		for _, m := range append(around(n, 1), random(r, top), modulo(n, prime)) {
			compare(n, m)
			compare(m, n)
		}
		for i := range 256 { // numbers that one bit makes different
			m := new(big.Int).SetBit(n, i, 1-n.Bit(i))
			compare(n, m)
		}
	}
}

// arithmetic compares the sum, the difference and the product of two numbers with those of package big.
func arithmetic(t *testing.T, n, m *big.Int) {
	t.Helper()
	a, b := element(n), element(m)
	with := " of " + n.String() + " and " + m.String()
	same(t, "Add"+with, field.Add(a, b), modulo(plus(n, m), prime))
	same(t, "Sub"+with, field.Sub(a, b), modulo(minus(n, m), prime))
	same(t, "Mul"+with, field.Mul(a, b), modulo(times(n, m), prime))
}

// P8.2: all pairs of numbers around the multiples of p, and many others.
func TestArithmetic(t *testing.T) {
	r := rand.New(rand.NewSource(82))
	var limits []*big.Int
	for i := range int64(3) {
		limits = append(limits, around(times(prime, big.NewInt(i)), 20)...)
	}
	limits = append(limits, around(top, 3)...)
	for _, n := range limits {
		for _, m := range limits {
			arithmetic(t, n, m)
		}
	}
	for _, n := range edges() {
		arithmetic(t, n, n)
		for _, m := range some(r, 8) {
			arithmetic(t, n, m)
			arithmetic(t, m, n)
		}
	}
	for range 3000 {
		arithmetic(t, random(r, top), random(r, top))
	}
}

// P8.2: sums, differences and products that are near 0 or p, of numbers that are not near them: there a carry or a reduction may be forgotten.
func TestNear(t *testing.T) {
	r := rand.New(rand.NewSource(83))
	for i := int64(-45); i <= 45; i++ {
		want := big.NewInt(i)
		for range 10 {
			n := random(r, top)
			if modulo(n, prime).Sign() == 0 {
				continue
			}
			inverse := new(big.Int).ModInverse(modulo(n, prime), prime)
			for _, m := range slices.Concat(both(minus(want, n)), both(minus(n, want)), both(times(want, inverse))) {
				arithmetic(t, n, m)
				arithmetic(t, m, n)
			}
		}
	}
	for i := range 255 { // products that are p, 2 p or 2^256 or nearly so, before they are reduced
		for j := range 4 {
			n := power(i)
			for _, m := range []*big.Int{prime, times(prime, big.NewInt(2)), top} {
				m = plus(new(big.Int).Div(m, n), big.NewInt(int64(j-2)))
				if m.Sign() >= 0 && m.Cmp(top) < 0 {
					arithmetic(t, n, m)
				}
			}
		}
	}
}

// P8.2: examples with bytes.
func TestExamples(t *testing.T) {
	last := api.Field(bytes.Repeat([]byte{255}, 32))
	last[0], last[31] = 0xec, 0x7f
	for name, x := range map[string][2]api.Field{
		"p - 1 and 2":       {field.Add(last, api.Field{2}), {1}},
		"p - 1 and 1":       {field.Add(last, api.Field{1}), {}},
		"0 less 1":          {field.Sub(api.Field{}, api.Field{1}), last},
		"p - 1 less p - 1":  {field.Sub(last, last), {}},
		"1 times p - 1":     {field.Mul(api.Field{1}, last), last},
		"p - 1 times p - 1": {field.Mul(last, last), {1}},
		"inverse of p - 1":  {field.Inv(last), last},
		"3 times 1/3":       {field.Mul(field.Inv(api.Field{3}), api.Field{3}), {1}},
		"256 times 256":     {field.Mul(api.Field{1: 1}, api.Field{1: 1}), {2: 1}},
		"2^128 times 2^127": {field.Mul(api.Field{16: 1}, api.Field{15: 128}), {19}},
		"2^255 and 2^255":   {field.Add(api.Field{31: 128}, api.Field{31: 128}), {38}},
	} {
		if x[0] != x[1] {
			t.Errorf("%s: %x, want %x", name, x[0], x[1])
		}
	}
}

// inverse compares Inv with package big.
func inverse(t *testing.T, n *big.Int) {
	t.Helper()
	want := new(big.Int)
	if m := modulo(n, prime); m.Sign() != 0 {
		want.ModInverse(m, prime)
	}
	same(t, "Inv of "+n.String(), field.Inv(element(n)), want)
}

// P8.2: inverses of small and large numbers, of numbers that are not reduced, and of 0, p and 2 p.
func TestInv(t *testing.T) {
	r := rand.New(rand.NewSource(84))
	for i := range int64(400) {
		inverse(t, big.NewInt(i))
		inverse(t, minus(prime, big.NewInt(i)))
		inverse(t, minus(minus(top, one), big.NewInt(i)))
	}
	for i := range 256 {
		inverse(t, power(i))
	}
	for _, n := range some(r, 400) {
		inverse(t, n)
	}
	for _, n := range both(zero) {
		if got := field.Inv(element(n)); got != (api.Field{}) {
			t.Errorf("Inv(%d): %x", n, got)
		}
	}
}

// square compares Sqrt with package big, and returns whether there is a root.
func square(t *testing.T, n *big.Int) bool {
	t.Helper()
	got, ok := field.Sqrt(element(n))
	want := new(big.Int).ModSqrt(modulo(n, prime), prime)
	if want == nil {
		if ok || got != (api.Field{}) {
			t.Errorf("Sqrt(%d): %x, %t, but there is none", n, got, ok)
		}
		return false
	}
	if want.Bit(0) == 1 {
		want = minus(prime, want)
	}
	if !ok {
		t.Errorf("Sqrt(%d): false", n)
	}
	same(t, "Sqrt of "+n.String(), got, want)
	return true
}

// P8.2: roots of all sorts of numbers, about half of which have none.
func TestSqrt(t *testing.T) {
	r := rand.New(rand.NewSource(85))
	found, all := 0, append(some(r, 400), edges()[:200]...)
	for _, n := range all {
		if square(t, n) {
			found++
		}
	}
	if found < len(all)/4 || found > len(all)*3/4 {
		t.Errorf("%d of %d numbers have a root", found, len(all))
	}
	for _, n := range both(zero) {
		if got, ok := field.Sqrt(element(n)); !ok || got != (api.Field{}) {
			t.Errorf("Sqrt(%d): %x, %t", n, got, ok)
		}
	}
	if got, ok := field.Sqrt(api.Field{4}); !ok || got != (api.Field{2}) {
		t.Errorf("Sqrt(4): %x, %t", got, ok)
	}
	if got, ok := field.Sqrt(api.Field{2}); ok || got != (api.Field{}) {
		t.Errorf("Sqrt(2): %x, %t", got, ok)
	}
}

// P8.2: squares of known numbers, also of those not reduced; of the two roots the even one is returned.
func TestRoots(t *testing.T) {
	r := rand.New(rand.NewSource(86))
	roots := some(r, 200)
	for i := range int64(100) {
		roots = append(roots, big.NewInt(i), minus(prime, big.NewInt(i)))
	}
	for _, n := range roots {
		want := modulo(n, prime)
		if want.Bit(0) == 1 {
			want = minus(prime, want)
		}
		for _, m := range both(times(n, n)) {
			got, ok := field.Sqrt(element(m))
			if !ok {
				t.Errorf("Sqrt of the square of %d: false", n)
			}
			same(t, "Sqrt of "+m.String(), got, want)
			if m.Sign() == 0 || modulo(m, prime).Sign() == 0 {
				continue
			}
			for _, twice := range both(times(m, big.NewInt(2))) { // 2 has no root, so this has none
				if got, ok := field.Sqrt(element(twice)); ok || got != (api.Field{}) {
					t.Errorf("Sqrt(%d): %x, %t", twice, got, ok)
				}
			}
			for _, other := range both(new(big.Int).Neg(m)) { // -1 has one
				got, ok := field.Sqrt(element(other))
				if !ok || got[0]%2 != 0 || field.Mul(got, got) != element(modulo(other, prime)) {
					t.Errorf("Sqrt(%d): %x, %t", other, got, ok)
				}
			}
		}
	}
}

// P8.2, Consequences: the laws of a field, for numbers that need not be reduced.
func TestLaws(t *testing.T) {
	r := rand.New(rand.NewSource(87))
	for range 2000 {
		l := some(r, 2)
		a, b, c := element(l[0]), element(l[1]), element(l[2])
		x := field.Reduce(a)
		for name, pair := range map[string][2]api.Field{
			"a + b and b + a":             {field.Add(a, b), field.Add(b, a)},
			"a b and b a":                 {field.Mul(a, b), field.Mul(b, a)},
			"(a + b) + c and a + (b + c)": {field.Add(field.Add(a, b), c), field.Add(a, field.Add(b, c))},
			"(a b) c and a (b c)":         {field.Mul(field.Mul(a, b), c), field.Mul(a, field.Mul(b, c))},
			"a (b + c) and a b + a c":     {field.Mul(a, field.Add(b, c)), field.Add(field.Mul(a, b), field.Mul(a, c))},
			"a + 0 and a":                 {field.Add(a, api.Field{}), x},
			"1 a and a":                   {field.Mul(api.Field{1}, a), x},
			"a + (0 - a) and 0":           {field.Add(a, field.Sub(api.Field{}, a)), {}},
			"(a - b) + b and a":           {field.Add(field.Sub(a, b), b), x},
			"0 a and 0":                   {field.Mul(api.Field{}, a), {}},
		} {
			if pair[0] != pair[1] || !field.Canonical(pair[0]) {
				t.Errorf("%s: %x and %x, where a is %x, b %x, c %x", name, pair[0], pair[1], a, b, c)
			}
		}
		if x != (api.Field{}) && field.Mul(a, field.Inv(a)) != (api.Field{1}) {
			t.Errorf("a Inv(a) is not 1, where a is %x", a)
		}
	}
}

// short compares Wide of so many bytes of n with package big.
func short(t *testing.T, n *big.Int, size int) {
	t.Helper()
	got, e := field.Wide(little(n, size))
	if e != api.OK {
		t.Errorf("Wide of %d in %d bytes: error %d", n, size, e)
	}
	same(t, "Wide of "+n.String(), got, modulo(n, order))
}

// P8.3: numbers around multiples of q, around powers of 2, and random ones, of all lengths.
func TestWide(t *testing.T) {
	r := rand.New(rand.NewSource(88))
	end := power(512)
	near := func(n *big.Int) {
		for d := int64(-2); d <= 2; d++ {
			if m := plus(n, big.NewInt(d)); m.Sign() >= 0 && m.Cmp(end) < 0 {
				short(t, m, 64)
			}
		}
	}
	most := new(big.Int).Div(end, order)
	for i := range int64(40) {
		near(times(order, big.NewInt(i)))
		near(times(order, minus(most, big.NewInt(i))))
	}
	for i := range 513 {
		near(power(i))
	}
	for i := range 261 {
		near(times(order, power(i)))
		near(times(order, random(r, power(i))))
	}
	for _, n := range edges() {
		short(t, n, 32)
		short(t, n, 33+r.Intn(32))
	}
	for size := range 65 {
		for range 40 {
			short(t, random(r, power(8*size)), size)
		}
		short(t, minus(power(8*size), one), size)
		short(t, zero, size)
	}
}

// P8.3: no bytes are 0, each byte counts where it stands, and 65 bytes are too many, even if all are 0.
func TestWideBytes(t *testing.T) {
	for _, b := range [][]byte{nil, {}, {0}, make([]byte, 31), make([]byte, 32), make([]byte, 33), make([]byte, 64)} {
		if x, e := field.Wide(b); e != api.OK || x != (api.Field{}) {
			t.Errorf("Wide of %d zeros: %x, error %d", len(b), x, e)
		}
	}
	for size := 1; size <= 64; size++ {
		for i := range size {
			b := make([]byte, size)
			b[i] = 0x91
			x, e := field.Wide(b)
			if e != api.OK {
				t.Errorf("Wide of %d bytes: error %d", size, e)
			}
			same(t, "Wide of one byte", x, modulo(times(big.NewInt(0x91), power(8*i)), order))
		}
	}
	for _, n := range []int{65, 66, 72, 96, 128, 256, 256 + 32, 1 << 16, 1<<16 + 1} {
		for _, c := range []byte{0, 1, 255} {
			if x, e := field.Wide(bytes.Repeat([]byte{c}, n)); e != api.ErrArg || x != (api.Field{}) {
				t.Errorf("Wide of %d bytes: %x, error %d", n, x, e)
			}
		}
	}
}

// grown compares MulAdd with package big.
func grown(t *testing.T, a, b, c *big.Int) {
	t.Helper()
	got := field.MulAdd(element(a), element(b), element(c))
	same(t, "MulAdd of "+a.String()+", "+b.String()+" and "+c.String(), got, modulo(plus(times(a, b), c), order))
}

// P8.3: numbers that are as large as they can be, and others.
func TestMulAdd(t *testing.T) {
	r := rand.New(rand.NewSource(89))
	most := minus(top, one)
	few := []*big.Int{zero, one, minus(order, one), order, plus(order, one), prime, power(252), most}
	for _, a := range few {
		for _, b := range few {
			for _, c := range few {
				grown(t, a, b, c)
			}
		}
	}
	for _, n := range edges() {
		grown(t, n, n, n)
		grown(t, n, most, most)
		grown(t, zero, n, n)
		grown(t, one, n, zero)
		l := some(r, 1)
		grown(t, n, l[0], l[1])
		grown(t, l[1], n, l[0])
		grown(t, l[0], l[1], n)
	}
	for range 1000 {
		grown(t, random(r, top), random(r, top), random(r, top))
	}
}

// P8.3: results near 0 and q.
func TestMulAddNear(t *testing.T) {
	r := rand.New(rand.NewSource(90))
	for i := int64(-10); i <= 10; i++ {
		for range 20 {
			a, b := random(r, top), random(r, top)
			for c := modulo(minus(big.NewInt(i), times(a, b)), order); c.Cmp(top) < 0; c = plus(c, order) {
				grown(t, a, b, c)
			}
		}
	}
}

// P8.3: a b + c modulo q, where a number of 64 bytes and the numbers of its halves are the same.
func TestHalves(t *testing.T) {
	r := rand.New(rand.NewSource(91))
	for range 300 {
		b := make([]byte, 64)
		r.Read(b)
		x, e := field.Wide(b)
		shift, _ := field.Wide(little(power(256), 33))
		if e != api.OK || field.MulAdd(api.Field(b[32:]), shift, api.Field(b[:32])) != x {
			t.Errorf("Wide(%x): %x, error %d", b, x, e)
		}
		if !field.Less(x, element(order)) {
			t.Errorf("Wide(%x) is not less than q: %x", b, x)
		}
	}
}

// R2, R3: bytes are neither changed nor kept, and the same call has the same result.
func TestArguments(t *testing.T) {
	r := rand.New(rand.NewSource(92))
	b := make([]byte, 80)
	r.Read(b)
	kept := slices.Clone(b)
	for n := range 65 {
		x, _ := field.Wide(b[:n])
		again := x
		y, _ := field.Wide(slices.Clone(kept[:n]))
		if x != y || x != again {
			t.Errorf("Wide of the same %d bytes: %x and %x", n, x, y)
		}
	}
	if !bytes.Equal(b, kept) {
		t.Error("Wide has changed its argument")
	}
	x, _ := field.Wide(b[:64])
	clear(b)
	if y, _ := field.Wide(kept[:64]); x != y {
		t.Error("a result has changed with the argument")
	}
}
