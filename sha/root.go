package sha

import (
	"math"
	"math/bits"
)

// primes returns the first 80 prime numbers.
func primes() [80]uint16 {
	return [80]uint16{
		2, 3, 5, 7, 11, 13, 17, 19, 23, 29, 31, 37, 41, 43, 47, 53, 59, 61, 67, 71,
		73, 79, 83, 89, 97, 101, 103, 107, 109, 113, 127, 131, 137, 139, 149, 151, 157, 163, 167, 173,
		179, 181, 191, 193, 197, 199, 211, 223, 227, 229, 233, 239, 241, 251, 257, 263, 269, 271, 277, 281,
		283, 293, 307, 311, 313, 317, 331, 337, 347, 349, 353, 359, 367, 373, 379, 383, 389, 397, 401, 409,
	}
}

// setRoots sets the elements of to, one after the other, to the fractions of the roots of the primes.
func setRoots[W word](to []W, degree int, fraction func(p uint64, degree int) W) {
	all := primes()
	for i := range to {
		to[i] = fraction(uint64(all[i]), degree)
	}
}

// root returns an estimate of the square root (degree 2) or the cube root (degree 3) of p. About 50 bits after the point are right.
func root(p uint64, degree int) float64 {
	if degree == 2 {
		return math.Sqrt(float64(p))
	}
	return math.Cbrt(float64(p))
}

// fraction32 returns the first 32 bits of the fractional part of a root of p. For these the estimate is good enough: no root of a prime below 512 has next bits so close to all zeros or all ones that an error in the 50th bit could reach the 32nd.
func fraction32(p uint64, degree int) uint32 {
	_, part := math.Modf(root(p, degree))
	return uint32(part * (1 << 32))
}

// fraction64 returns the first 64 bits of the fractional part of a root of p. A step of Newton's method from the estimate doubles the number of right bits. The power is calculated in whole numbers, as what it exceeds p by begins where the digits of a float end.
func fraction64(p uint64, degree int) uint64 {
	estimate := root(p, degree)
	whole, part := math.Modf(estimate)
	f := uint64(part * (1 << 64))
	z := power(uint64(whole), f, degree)
	excess := float64(int64(z[degree-1])) + float64(z[degree-2])/(1<<64)
	slope := float64(degree) * float64(p) / estimate
	return f + uint64(int64(math.Floor(-excess/slope)))
}

// power returns a power of the number whole + f / 2^64: words of 64 bits, the lowest one first, of which as many as the degree stand after the point.
func power(whole, f uint64, degree int) [4]uint64 {
	z := [4]uint64{1}
	for range degree {
		z = times(z, whole, f)
	}
	return z
}

// times returns z times the number whole + f / 2^64, with one more word after the point.
func times(z [4]uint64, whole, f uint64) [4]uint64 {
	var below, carry uint64
	for i, x := range z {
		high1, low1 := bits.Mul64(x, f)
		high2, low2 := bits.Mul64(below, whole)
		sum, c1 := bits.Add64(low1, low2, 0)
		sum, c2 := bits.Add64(sum, carry, 0)
		z[i], below, carry = sum, x, high1+high2+c1+c2
	}
	return z
}
