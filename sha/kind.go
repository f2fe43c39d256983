package sha

import "math/bits"

// word is a word of SHA-256 or of SHA-512.
type word interface{ uint32 | uint64 }

// kind is what the two functions do not have in common. The functions mix1 and mix0 are those of the words, s1 and s0 in the chapter, and turn1 and turn0 those of the rounds, S1 and S0.
type kind[W word] struct {
	size                     int // of a word, in bytes
	rounds                   int
	start                    [8]W
	keys                     [80]W
	mix1, mix0, turn1, turn0 func(W) W
}

func kind256() kind[uint32] {
	v := kind[uint32]{
		size:   4,
		rounds: 64,
		mix1:   func(x uint32) uint32 { return right32(x, 17) ^ right32(x, 19) ^ x>>10 },
		mix0:   func(x uint32) uint32 { return right32(x, 7) ^ right32(x, 18) ^ x>>3 },
		turn1:  func(x uint32) uint32 { return right32(x, 6) ^ right32(x, 11) ^ right32(x, 25) },
		turn0:  func(x uint32) uint32 { return right32(x, 2) ^ right32(x, 13) ^ right32(x, 22) },
	}
	setRoots(v.start[:], 2, fraction32)
	setRoots(v.keys[:v.rounds], 3, fraction32)
	return v
}

func kind512() kind[uint64] {
	v := kind[uint64]{
		size:   8,
		rounds: 80,
		mix1:   func(x uint64) uint64 { return right64(x, 19) ^ right64(x, 61) ^ x>>6 },
		mix0:   func(x uint64) uint64 { return right64(x, 1) ^ right64(x, 8) ^ x>>7 },
		turn1:  func(x uint64) uint64 { return right64(x, 14) ^ right64(x, 18) ^ right64(x, 41) },
		turn0:  func(x uint64) uint64 { return right64(x, 28) ^ right64(x, 34) ^ right64(x, 39) },
	}
	setRoots(v.start[:], 2, fraction64)
	setRoots(v.keys[:v.rounds], 3, fraction64)
	return v
}

func right32(x uint32, n int) uint32 { return bits.RotateLeft32(x, -n) }

func right64(x uint64, n int) uint64 { return bits.RotateLeft64(x, -n) }

// sum returns the hash of b.
func sum[W word](v kind[W], b []byte) []byte {
	h := v.after(v.start, b)
	h = v.after(h, tail(b, 16*v.size))
	out := make([]byte, 0, 8*v.size)
	for _, x := range h {
		for i := range v.size {
			out = append(out, byte(x>>(8*(v.size-1-i))))
		}
	}
	return out
}

// after returns what the state h becomes by the whole blocks at the beginning of b.
func (v *kind[W]) after(h [8]W, b []byte) [8]W {
	for n := 16 * v.size; len(b) >= n; b = b[n:] {
		h = v.afterBlock(h, b[:n])
	}
	return h
}

func (v *kind[W]) afterBlock(s [8]W, block []byte) [8]W {
	w := v.words(block)
	a, b, c, d, e, f, g, h := s[0], s[1], s[2], s[3], s[4], s[5], s[6], s[7]
	for t, k := range v.keys[:v.rounds] {
		t1 := h + v.turn1(e) + (e&f ^ ^e&g) + k + w[t]
		t2 := v.turn0(a) + (a&b ^ a&c ^ b&c)
		h, g, f, e = g, f, e, d+t1
		d, c, b, a = c, b, a, t1+t2
	}
	return [8]W{s[0] + a, s[1] + b, s[2] + c, s[3] + d, s[4] + e, s[5] + f, s[6] + g, s[7] + h}
}

// words returns the words of all rounds for a block.
func (v *kind[W]) words(block []byte) [80]W {
	var w [80]W
	for t := range 16 {
		for _, x := range block[v.size*t : v.size*(t+1)] {
			w[t] = w[t]<<8 | W(x)
		}
	}
	for t := 16; t < v.rounds; t++ {
		w[t] = v.mix1(w[t-2]) + w[t-7] + v.mix0(w[t-15]) + w[t-16]
	}
	return w
}
