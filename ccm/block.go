package ccm

import (
	"bytes"
	"slices"

	"coresec/aes"
)

const (
	blockBytes = 16
	sizeBytes  = 2 // of the length that stands before an aad
)

// mark returns the tag: the beginning of the authentication value, xored with the key stream block that crypt leaves out.
func mark(key, nonce, aad, plain []byte, tag int) []byte {
	x := make([]byte, blockBytes)
	add := func(b []byte) { // the last block needs no zero bytes behind it: they would change nothing in x
		for part := range slices.Chunk(b, blockBytes) {
			x = encrypt(key, plus(x, part))
		}
	}
	add(block(flags(nonce, aad, tag), nonce, len(plain)))
	if len(aad) > 0 {
		add(slices.Concat(number(len(aad), sizeBytes), aad))
	}
	add(plain)
	return plus(x, stream(key, nonce, 0))[:tag]
}

// crypt returns b, xored with the key stream blocks from 1 on; doing so twice gives b again.
func crypt(key, nonce, b []byte) []byte {
	out := make([]byte, 0, len(b))
	for i := range blocks(len(b)) {
		part := b[i*blockBytes : min((i+1)*blockBytes, len(b))]
		out = append(out, plus(part, stream(key, nonce, i+1))...)
	}
	return out
}

// stream returns the key stream block i.
func stream(key, nonce []byte, i int) []byte {
	return encrypt(key, block(byte(room(nonce)-1), nonce, i))
}

// flags returns the first byte of the first block of the authentication value.
func flags(nonce, aad []byte, tag int) byte {
	n := 8*(tag/2-1) + room(nonce) - 1
	if len(aad) > 0 {
		n += 64
	}
	return byte(n)
}

// room returns how many bytes of a block are left for a number, behind a byte and nonce: L in the chapter.
func room(nonce []byte) int { return blockBytes - 1 - len(nonce) }

// block returns the block of the byte first, nonce and the number n.
func block(first byte, nonce []byte, n int) []byte {
	return slices.Concat([]byte{first}, nonce, number(n, room(nonce)))
}

// number returns n in size bytes, big-endian.
func number(n, size int) []byte {
	out := make([]byte, size)
	for i := range out {
		out[size-1-i] = byte(n >> (8 * i))
	}
	return out
}

// blocks returns how many blocks n bytes fill, the last one maybe not wholly.
func blocks(n int) int { return (n + blockBytes - 1) / blockBytes }

// plus returns a, xored with b as far as both reach.
func plus(a, b []byte) []byte {
	out := bytes.Clone(a)
	for i := range min(len(a), len(b)) {
		out[i] ^= b[i]
	}
	return out
}

// encrypt returns the encrypted block. There is no error to return: key and b have the lengths that aes asks for.
func encrypt(key, b []byte) []byte {
	out, _ := aes.Encrypt(key, b)
	return out
}
