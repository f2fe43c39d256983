package montgomery_test

import (
	"encoding/hex"
	"math/big"
	"math/rand"
	"slices"

	"coresec/api"
)

var (
	one   = big.NewInt(1)
	top   = power(256)
	prime = minus(power(255), big.NewInt(19))
	order = plus(power(252), number("27742317777372353535851937790883648493")) // of the point 9
	twist = minus(new(big.Int).Rsh(plus(prime, one), 1), plus(order, order))   // the large prime in the order of the numbers that are not on the curve
	curve = big.NewInt(486662)
)

func number(s string) *big.Int {
	n, ok := new(big.Int).SetString(s, 10)
	if !ok {
		panic(s)
	}
	return n
}

// power returns 2^n.
func power(n int) *big.Int { return new(big.Int).Lsh(one, uint(n)) }

func plus(a, b *big.Int) *big.Int  { return new(big.Int).Add(a, b) }
func minus(a, b *big.Int) *big.Int { return new(big.Int).Sub(a, b) }
func times(a, b *big.Int) *big.Int { return new(big.Int).Mul(a, b) }
func modulo(a *big.Int) *big.Int   { return new(big.Int).Mod(a, prime) }
func divide(a, b *big.Int) *big.Int {
	return modulo(times(a, new(big.Int).ModInverse(modulo(b), prime)))
}

// hx returns the number of hexadecimal digits, the least significant byte first.
func hx(s string) api.Field {
	b, err := hex.DecodeString(s)
	if err != nil {
		panic(err)
	}
	return api.Field(b)
}

// whole returns the number of x.
func whole(x api.Field) *big.Int {
	slices.Reverse(x[:])
	return new(big.Int).SetBytes(x[:])
}

// element returns the field element of a number below 2^256.
func element(n *big.Int) api.Field {
	var x api.Field
	n.FillBytes(x[:])
	slices.Reverse(x[:])
	return x
}

// random returns 32 bytes.
func random(r *rand.Rand) api.Field {
	var x api.Field
	r.Read(x[:])
	return x
}

// point is a point of a curve; the point at infinity has no coordinates.
type point struct{ x, y *big.Int }

// shape is the curve s y^2 = x^3 + 486662 x^2 + x. Over an extension of the field it is the curve of s = 1, with other y-coordinates only, so that multiples have the same x-coordinates.
type shape struct{ s *big.Int }

// start returns a point with the x-coordinate u, and a curve that it is on.
func start(u *big.Int) (shape, point) {
	s := modulo(times(u, plus(times(u, plus(u, curve)), one)))
	if s.Sign() == 0 {
		return shape{one}, point{u, new(big.Int)}
	}
	return shape{s}, point{u, one}
}

// sum adds points by their tangents and chords.
func (c shape) sum(a, b point) point {
	var slope *big.Int
	switch {
	case a.x == nil:
		return b
	case b.x == nil:
		return a
	case a.x.Cmp(b.x) != 0:
		slope = divide(minus(b.y, a.y), minus(b.x, a.x))
	case modulo(plus(a.y, b.y)).Sign() == 0:
		return point{}
	default:
		three, two := big.NewInt(3), big.NewInt(2)
		above := plus(times(a.x, plus(times(three, a.x), times(two, curve))), one)
		slope = divide(above, times(times(two, c.s), a.y))
	}
	x := modulo(minus(minus(minus(times(c.s, times(slope, slope)), curve), a.x), b.x))
	return point{x, modulo(minus(times(slope, minus(a.x, x)), a.y))}
}

// times returns the n-fold of a, by doubling and adding.
func (c shape) times(n *big.Int, a point) point {
	var out point
	for i := n.BitLen() - 1; i >= 0; i-- {
		out = c.sum(out, out)
		if n.Bit(i) == 1 {
			out = c.sum(out, a)
		}
	}
	return out
}

// multiple returns the n-fold of u, for a u below p; 0 stands for the point at infinity, too.
func multiple(n, u *big.Int) *big.Int {
	c, a := start(u)
	out := c.times(n, a)
	if out.x == nil {
		return new(big.Int)
	}
	return out.x
}

// clamped returns n clamped, bit by bit.
func clamped(n *big.Int) *big.Int {
	out := new(big.Int).Set(n)
	for _, i := range []int{0, 1, 2, 255} {
		out.SetBit(out, i, 0)
	}
	return out.SetBit(out, 254, 1)
}

// want returns what Mult should.
func want(k, u api.Field) api.Field {
	low := new(big.Int).SetBit(whole(u), 255, 0)
	return element(multiple(clamped(whole(k)), modulo(low)))
}
