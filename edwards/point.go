package edwards

import (
	"coresec/api"
	"coresec/field"
)

// point stands for (x / z, y / z), so that sums need no division; t is x y / z, and z is never 0.
type point struct{ x, y, z, t api.Field }

// d is -121665 / 121666 modulo p. It is written out because each sum needs it, and a division takes longer than a sum.
var d = api.Field{
	0xa3, 0x78, 0x59, 0x13, 0xca, 0x4d, 0xeb, 0x75, 0xab, 0xd8, 0x41, 0x41, 0x4d, 0x0a, 0x70, 0x00,
	0x98, 0xe8, 0x79, 0x77, 0x79, 0x40, 0xc7, 0x8c, 0x73, 0xfe, 0x6f, 0x2b, 0xee, 0x6c, 0x03, 0x52,
}

// at returns the point (x, y).
func at(x, y api.Field) point {
	return point{x: x, y: y, z: api.Field{1}, t: field.Mul(x, y)}
}

func neutral() point { return at(api.Field{}, api.Field{1}) }

// base returns B.
func base() point {
	p, _ := decode(Base())
	return p
}

// add returns p + q. Its coordinates are e / f and h / g, which are those of the chapter with both parts of the fractions multiplied by p.z q.z.
func add(p, q point) point {
	xx, yy := field.Mul(p.x, q.x), field.Mul(p.y, q.y)
	zz, dtt := field.Mul(p.z, q.z), field.Mul(d, field.Mul(p.t, q.t))
	all := field.Mul(field.Add(p.x, p.y), field.Add(q.x, q.y))
	e := field.Sub(field.Sub(all, xx), yy)
	return ratios(e, field.Add(zz, dtt), field.Sub(zz, dtt), field.Add(yy, xx))
}

// double returns p + p with fewer products than add: as p is on the curve, the denominators are yy - xx and 2 zz - (yy - xx), over zz.
func double(p point) point {
	xx, yy, zz := square(p.x), square(p.y), square(p.z)
	sum := field.Add(xx, yy)
	f := field.Sub(yy, xx)
	e := field.Sub(square(field.Add(p.x, p.y)), sum)
	return ratios(e, f, field.Sub(field.Add(zz, zz), f), sum)
}

// ratios returns the point (e / f, h / g).
func ratios(e, f, g, h api.Field) point {
	return point{x: field.Mul(e, g), y: field.Mul(h, f), z: field.Mul(f, g), t: field.Mul(e, h)}
}

func square(x api.Field) api.Field { return field.Mul(x, x) }

// negative returns the point whose sum with p is neutral.
func negative(p point) point {
	p.x, p.t = field.Sub(api.Field{}, p.x), field.Sub(api.Field{}, p.t)
	return p
}

// multiple returns k times p.
func multiple(k api.Field, p point) point {
	out := neutral()
	for i := range 8 * len(k) {
		bit := 8*len(k) - 1 - i // the highest one is the first
		out = double(out)
		if k[bit/8]>>(bit%8)&1 == 1 {
			out = add(out, p)
		}
	}
	return out
}

// small reports whether 8 times p is neutral.
func small(p point) bool {
	for range 3 {
		p = double(p)
	}
	return p.x == api.Field{} && p.y == p.z
}

// encode returns the encoding of p.
func encode(p point) api.Field {
	i := field.Inv(p.z)
	x, y := field.Mul(p.x, i), field.Mul(p.y, i)
	y[31] |= x[0] << 7 // x modulo 2
	return y
}

// decode returns the point whose encoding is a, and whether there is one.
func decode(a api.Field) (point, bool) {
	y, odd := a, a[31]>>7 == 1
	y[31] &^= 1 << 7
	if !field.Canonical(y) {
		return point{}, false
	}
	yy, one := square(y), api.Field{1}
	below := field.Add(field.Mul(d, yy), one)
	x, ok := field.Sqrt(field.Mul(field.Sub(yy, one), field.Inv(below)))
	if !ok || odd && x == (api.Field{}) {
		return point{}, false
	}
	if odd {
		x = field.Sub(api.Field{}, x)
	}
	return at(x, y), true
}
