package montgomery

import (
	"coresec/api"
	"coresec/field"
)

// ratio stands for x / z, the x-coordinate of a point; z is 0 for the point at infinity.
type ratio struct{ x, z api.Field }

// multiple returns the k-fold of u. For a point with the x-coordinate u, a is its n-fold and b the one of n + 1, where n is the number of the bits of k so far: as the difference of a and b remains the same, a step needs no y-coordinates.
func multiple(k, u api.Field) api.Field {
	a, b := ratio{x: api.Field{1}}, ratio{x: u, z: api.Field{1}}
	for i := 255; i >= 0; i-- {
		if k[i/8]>>(i%8)&1 == 1 {
			b, a = step(b, a, u)
		} else {
			a, b = step(a, b, u)
		}
	}
	return field.Mul(a.x, field.Inv(a.z)) // the inverse of 0 is 0
}

// step returns a + a and a + b, for points a and b whose difference has the x-coordinate u.
func step(a, b ratio, u api.Field) (double, sum ratio) {
	plus, minus := field.Add(a.x, a.z), field.Sub(a.x, a.z) // A and B in the chapter
	da := field.Mul(field.Sub(b.x, b.z), plus)
	cb := field.Mul(field.Add(b.x, b.z), minus)
	aa, bb := square(plus), square(minus)
	e := field.Sub(aa, bb)
	sum.x = square(field.Add(da, cb))
	sum.z = field.Mul(u, square(field.Sub(da, cb)))
	double.x = field.Mul(aa, bb)
	double.z = field.Mul(e, field.Add(aa, field.Mul(factor(), e)))
	return double, sum
}

func square(x api.Field) api.Field { return field.Mul(x, x) }

// factor returns 121665.
func factor() api.Field {
	const n = (486662 - 2) / 4 // as it follows from the curve's 486662
	return api.Field{n & 255, n >> 8 & 255, n >> 16}
}
