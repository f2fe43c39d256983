package field

// prime returns p.
func prime() number { return below(255, 19) }

// order returns q.
func order() number { return number{0x5812631a5cf5d3ed, 0x14def9dea2f79cd6, 0, 1 << 60} }

// below returns 2^n - d, for an n from 193 to 255 and a d that is not 0.
func below(n int, d uint64) number {
	return number{-d, 1<<64 - 1, 1<<64 - 1, 1<<(n-192) - 1}
}

// fold returns x + 2^256 top modulo p, for a top of some bits: 2^255 is 19 modulo p, and what is left is less than 2 p.
func fold(x number, top uint64) number {
	top = top<<1 | x[3]>>63
	x[3] &= 1<<63 - 1
	x, _ = plus(x, number{19 * top})
	return within(x, prime())
}

func reduce(x number) number { return fold(x, 0) }

// add returns a + b modulo p.
func add(a, b number) number { return fold(plus(a, b)) }

// negative returns p less x modulo p: from 1 to p, and modulo p it is -x.
func negative(x number) number {
	out, _ := minus(prime(), reduce(x))
	return out
}

// mul returns a b modulo p: 2^256 is 38 modulo p.
func mul(a, b number) number {
	x := product(a, b, number{})
	var out number
	var carry uint64
	for i := range out {
		out[i], carry = word(x[i+4], 38, x[i], carry)
	}
	return fold(out, carry)
}

// power returns x to the exponent, modulo p.
func power(x, exponent number) number {
	out := number{1}
	for i := 255; i >= 0; i-- {
		out = mul(out, out)
		if exponent[i/64]>>(i%64)&1 == 1 {
			out = mul(out, x)
		}
	}
	return out
}

// root returns one of the numbers whose square is x modulo p, for an x less than p, and whether there are any. As x to the exponent (p - 1)/2 is 1 then, the square of the first candidate, x to the exponent (p + 3)/8, is x or -x; the second one is the first times a root of -1, which a power of 2 is, as 2 has no root.
func root(x number) (number, bool) {
	r := power(x, below(252, 2))
	if mul(r, r) == x {
		return r, true
	}
	r = mul(r, power(number{2}, below(253, 5))) // (p - 1)/4
	return r, mul(r, r) == x
}

// remainder returns x modulo q, which is less than 2^253: twice what is left of it has room in a number.
func remainder(x wide) number {
	var out number
	for i := 511; i >= 0; i-- {
		out, _ = plus(out, out)
		out[0] |= x[i/64] >> (i % 64) & 1
		out = within(out, order())
	}
	return out
}
