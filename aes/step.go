package aes

import "math/bits"

// read returns the bytes of b, of which there are enough.
func read(b []byte) state {
	var out state
	copy(out[:], b)
	return out
}

func plus(a, b state) state {
	for i := range a {
		a[i] ^= b[i]
	}
	return a
}

// replace returns what stands in the table for the bytes of b.
func replace(b state, table [256]byte) state {
	for i, x := range b {
		b[i] = table[x]
	}
	return b
}

// from returns the index of the byte that shift brings to index i. Going on by r columns, around the end, is going on by 4 r bytes.
func from(i int) int { return (i + 4*(i%4)) % blockBytes }

func shift(b state) state {
	var out state
	for i := range out {
		out[i] = b[from(i)]
	}
	return out
}

func unshift(b state) state {
	var out state
	for i, x := range b {
		out[from(i)] = x
	}
	return out
}

// mix returns the mixed columns of b. 2 a0 + 3 a1 + a2 + a3 is a0 + (a0 + a1 + a2 + a3) + 2 (a0 + a1), and so are the others.
func mix(b state) state {
	out := b
	for c := 0; c < blockBytes; c += 4 {
		sum := b[c] ^ b[c+1] ^ b[c+2] ^ b[c+3]
		for r := range 4 {
			out[c+r] ^= sum ^ double(b[c+r]^b[c+(r+1)%4])
		}
	}
	return out
}

// unmix returns what mix makes b of: four mixings are none, as the fourth power of the polynomial 2 + x + x^2 + 3 x^3 by which columns are multiplied, modulo x^4 + 1, is 1.
func unmix(b state) state { return mix(mix(mix(b))) }

// double returns the product of b and the polynomial x.
func double(b byte) byte { return b<<1 ^ (b>>7)*0x1b }

// substitutes returns the substitutes of all bytes. All bytes but 0 are powers of 3, and the inverse of its power i is its power 255 - i.
func substitutes() [256]byte {
	var powers [256]byte
	x := byte(1)
	for i := range 256 {
		powers[i] = x
		x ^= double(x)
	}
	var table [256]byte
	table[0] = substitute(0)
	for i, x := range powers {
		table[x] = substitute(powers[255-i])
	}
	return table
}

// substitute returns what is substituted for the byte whose inverse is b.
func substitute(b byte) byte {
	out := b ^ 99
	for n := range 4 {
		out ^= bits.RotateLeft8(b, n+1)
	}
	return out
}

// invert returns the table that leads back from the substitutes to the bytes.
func invert(table [256]byte) [256]byte {
	var back [256]byte
	for i, x := range table {
		back[x] = byte(i)
	}
	return back
}
