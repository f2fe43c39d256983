package field

import (
	"math/bits"

	"coresec/api"
)

// number is a number from 0 to 2^256 - 1, its least significant word first.
type number [4]uint64

// wide is a number from 0 to 2^512 - 1, its least significant word first.
type wide [8]uint64

// read returns the number of x. Bytes are put together a word at a time, as the layers above do most of their work in calls of Mul.
func read(x api.Field) number {
	var out number
	for i := range out {
		b := x[8*i : 8*i+8]
		low := uint64(b[0]) | uint64(b[1])<<8 | uint64(b[2])<<16 | uint64(b[3])<<24
		high := uint64(b[4]) | uint64(b[5])<<8 | uint64(b[6])<<16 | uint64(b[7])<<24
		out[i] = low | high<<32
	}
	return out
}

// write returns the bytes of x.
func write(x number) api.Field {
	var out api.Field
	for i, w := range x {
		b := out[8*i : 8*i+8]
		for j := range b {
			b[j] = byte(w >> (8 * j))
		}
	}
	return out
}

// plus returns a + b, without the bit that it carries beyond 2^256, and this bit.
func plus(a, b number) (number, uint64) {
	var out number
	var carry uint64
	for i := range out {
		out[i], carry = bits.Add64(a[i], b[i], carry)
	}
	return out, carry
}

// minus returns a - b, and 1 if 2^256 had to be added to it, as b is greater.
func minus(a, b number) (number, uint64) {
	var out number
	var borrow uint64
	for i := range out {
		out[i], borrow = bits.Sub64(a[i], b[i], borrow)
	}
	return out, borrow
}

func less(a, b number) bool {
	_, borrow := minus(a, b)
	return borrow == 1
}

// within returns x modulo m, for an x less than 2 m.
func within(x, m number) number {
	if rest, borrow := minus(x, m); borrow == 0 {
		return rest
	}
	return x
}

// product returns a b + c, which is less than 2^512 for any numbers.
func product(a, b, c number) wide {
	out := wide{c[0], c[1], c[2], c[3]}
	for i, x := range a {
		var carry uint64
		for j, y := range b {
			out[i+j], carry = word(x, y, out[i+j], carry)
		}
		out[i+4] = carry
	}
	return out
}

// word returns x y + a + b, which is less than 2^128 for any words: its low word and its high one.
func word(x, y, a, b uint64) (low, high uint64) {
	high, low = bits.Mul64(x, y)
	low, carry := bits.Add64(low, a, 0)
	high += carry
	low, carry = bits.Add64(low, b, 0)
	return low, high + carry
}
