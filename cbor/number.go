package cbor

import "math/bits"

// majorSimple is the major type of simple values and floats; the other major types have the numbers of their kinds.
const majorSimple = 7

// theNaN is the only float of an item that is not a number.
const theNaN = 0x7ff8000000000000

// numberSize returns how many bytes a number needs after the first byte of a head.
func numberSize(n uint64) int {
	switch {
	case n < 24:
		return 0
	case n < 1<<8:
		return 1
	case n < 1<<16:
		return 2
	case n < 1<<32:
		return 4
	}
	return 8
}

func appendHead(b []byte, major int, n uint64) []byte {
	return appendNumber(b, major, numberSize(n), n)
}

func appendNumber(b []byte, major, size int, n uint64) []byte {
	if size == 0 {
		return append(b, byte(major<<5)|byte(n))
	}
	b = append(b, byte(major<<5+24+bits.TrailingZeros(uint(size))))
	for i := range size {
		b = append(b, byte(n>>(8*(size-1-i))))
	}
	return b
}

// format is a format of IEEE 754 that is shorter than a double, by the bits of its exponent and of its fraction.
type format struct{ exp, frac int }

func half() format { return format{5, 10} }

func single() format { return format{8, 23} }

func (f format) bias() int { return 1<<(f.exp-1) - 1 }

// top is the exponent of infinities and of what is not a number.
func (f format) top() int { return 1<<f.exp - 1 }

func isNaN(n uint64) bool { return n<<1 > 0x7ff<<53 }

// floatForm returns the one form of a double: its bytes, and the number that stands in them.
func floatForm(n uint64) (size int, short uint64) {
	if isNaN(n) {
		return 2, 0x7e00
	}
	if s, ok := half().narrow(n); ok {
		return 2, s
	}
	if s, ok := single().narrow(n); ok {
		return 4, s
	}
	return 8, n
}

// floatBits returns the double that is the same number as a float of so many bytes.
func floatBits(size int, n uint64) uint64 {
	switch size {
	case 2:
		return half().widen(n)
	case 4:
		return single().widen(n)
	}
	return n
}

// narrow returns the float of the format that is the same number as a double, which is a number; or false if there is none.
func (f format) narrow(n uint64) (uint64, bool) {
	sign := n >> 63 << (f.exp + f.frac)
	exp := int(n >> 52 & 0x7ff)
	frac := n & (1<<52 - 1)
	if exp == 0 && frac == 0 {
		return sign, true
	}
	if exp == 0x7ff {
		return sign | uint64(f.top())<<f.frac, true
	}
	exp += f.bias() - 1023
	drop := 52 - f.frac
	if exp <= 0 {
		// Subnormal in this format (or too small): the leading one is written out.
		frac |= 1 << 52
		drop += 1 - exp
		exp = 0
	}
	if exp >= f.top() || drop > 52 || frac&(1<<drop-1) != 0 {
		return 0, false
	}
	return sign | uint64(exp)<<f.frac | frac>>drop, true
}

// widen returns the double that is the same number as a float of the format.
func (f format) widen(n uint64) uint64 {
	sign := n >> (f.exp + f.frac) << 63
	exp := int(n>>f.frac) & f.top()
	frac := n & (1<<f.frac - 1) << (52 - f.frac)
	if exp == f.top() {
		return sign | 0x7ff<<52 | frac
	}
	if exp == 0 {
		if frac == 0 {
			return sign
		}
		// A subnormal: as a double it has a leading one, which is not written.
		shift := bits.LeadingZeros64(frac) - 11
		frac = frac << shift & (1<<52 - 1)
		exp = 1 - shift
	}
	return sign | uint64(exp-f.bias()+1023)<<52 | frac
}
