package edwards_test

import (
	"crypto/sha512"
	"encoding/hex"
	"math/big"
	"math/rand"
	"slices"

	"coresec/api"
)

var (
	one    = big.NewInt(1)
	top    = power(256)
	prime  = minus(power(255), big.NewInt(19))
	order  = plus(power(252), number("27742317777372353535851937790883648493")) // of the base point
	factor = divide(big.NewInt(-121665), big.NewInt(121666))
)

func number(s string) *big.Int {
	n, ok := new(big.Int).SetString(s, 10)
	if !ok {
		panic(s)
	}
	return n
}

// power returns 2^n.
func power(n int) *big.Int { return new(big.Int).Lsh(one, uint(n)) }

func plus(a, b *big.Int) *big.Int      { return new(big.Int).Add(a, b) }
func minus(a, b *big.Int) *big.Int     { return new(big.Int).Sub(a, b) }
func times(a, b *big.Int) *big.Int     { return new(big.Int).Mul(a, b) }
func remainder(a, m *big.Int) *big.Int { return new(big.Int).Mod(a, m) }
func modulo(a *big.Int) *big.Int       { return remainder(a, prime) }
func divide(a, b *big.Int) *big.Int {
	return modulo(times(a, new(big.Int).ModInverse(modulo(b), prime)))
}

// bytesOf returns the bytes of hexadecimal digits.
func bytesOf(s string) []byte {
	b, err := hex.DecodeString(s)
	if err != nil {
		panic(err)
	}
	return b
}

// hx returns the number of hexadecimal digits, the least significant byte first.
func hx(s string) api.Field { return api.Field(bytesOf(s)) }

// whole returns the number of the bytes b, the least significant one first.
func whole(b []byte) *big.Int {
	b = slices.Clone(b)
	slices.Reverse(b)
	return new(big.Int).SetBytes(b)
}

// element returns the field element of a number below 2^256.
func element(n *big.Int) api.Field {
	var x api.Field
	n.FillBytes(x[:])
	slices.Reverse(x[:])
	return x
}

// random returns n bytes.
func random(r *rand.Rand, n int) []byte {
	b := make([]byte, n)
	r.Read(b)
	return b
}

// point is a point of the group.
type point struct{ x, y *big.Int }

// start returns the neutral point.
func start() point { return point{new(big.Int), one} }

// sum adds points as the chapter says.
func sum(a, b point) point {
	xy, yx := times(a.x, b.y), times(b.x, a.y)
	xx, yy := times(a.x, b.x), times(a.y, b.y)
	both := modulo(times(factor, times(xx, yy)))
	return point{divide(plus(xy, yx), plus(one, both)), divide(plus(yy, xx), minus(one, both))}
}

// multiple returns n times a, by doubling and adding from the lowest bit on.
func multiple(n *big.Int, a point) point {
	out := start()
	for i := range n.BitLen() {
		if n.Bit(i) == 1 {
			out = sum(out, a)
		}
		a = sum(a, a)
	}
	return out
}

// opposite returns the point whose sum with a is neutral.
func opposite(a point) point { return point{modulo(new(big.Int).Neg(a.x)), a.y} }

// encode returns the encoding of a point.
func encode(a point) api.Field {
	return element(plus(a.y, times(power(255), big.NewInt(int64(a.x.Bit(0))))))
}

// decode returns the point whose encoding a is, if there is one.
func decode(a api.Field) (point, bool) {
	n := whole(a[:])
	y, bit := new(big.Int).SetBit(n, 255, 0), n.Bit(255)
	if y.Cmp(prime) >= 0 {
		return point{}, false
	}
	yy := times(y, y)
	x := new(big.Int).ModSqrt(divide(minus(yy, one), plus(times(factor, yy), one)), prime)
	if x == nil || x.Sign() == 0 && bit == 1 {
		return point{}, false
	}
	if x.Bit(0) != bit {
		x = minus(prime, x)
	}
	return point{x, y}, true
}

// base returns the base point.
func base() point {
	p, ok := decode(element(divide(big.NewInt(4), big.NewInt(5))))
	if !ok || p.x.Bit(0) == 1 {
		panic("the base point does not decode")
	}
	return p
}

// smallest returns the eight points of small order: the i-th is i times the first one.
func smallest() []point {
	a, ok := decode(hx("26e8958fc2b227b045c3f489f2ef98f0d5dfac05d3c63339b13802886d53fc05"))
	if !ok {
		panic("the point of order 8 does not decode")
	}
	out := []point{start()}
	for range 7 {
		out = append(out, sum(out[len(out)-1], a))
	}
	return out
}

// somewhere returns a point of any order.
func somewhere(r *rand.Rand) point {
	for {
		if p, ok := decode(api.Field(random(r, 32))); ok {
			return p
		}
	}
}

// hashed returns the hash of all parts, modulo q.
func hashed(parts ...[]byte) *big.Int {
	h := sha512.Sum512(slices.Concat(parts...))
	return remainder(whole(h[:]), order)
}

// secret returns the secret number of a seed, and its prefix.
func secret(seed []byte) (*big.Int, []byte) {
	h := sha512.Sum512(seed)
	n := whole(h[:32])
	for _, i := range []int{0, 1, 2, 255} {
		n.SetBit(n, i, 0)
	}
	return n.SetBit(n, 254, 1), h[32:]
}

// signature returns the bytes of a first half and of a number.
func signature(first api.Field, n *big.Int) []byte {
	second := element(n)
	return slices.Concat(first[:], second[:])
}
