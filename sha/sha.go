// Package sha is layer 1: sums of bytes: see shared/doc/01-sha.md.
package sha

import (
	"math/bits"

	"ferryman/api"
)

const (
	blockBytes  = 64
	lengthPlace = 56 // where in the last block the length stands
)

// thirds: the first 32 bits behind the point of the third roots of the first 64 primes.
var thirds = [64]uint32{
	0x428a2f98, 0x71374491, 0xb5c0fbcf, 0xe9b5dba5, 0x3956c25b, 0x59f111f1, 0x923f82a4, 0xab1c5ed5,
	0xd807aa98, 0x12835b01, 0x243185be, 0x550c7dc3, 0x72be5d74, 0x80deb1fe, 0x9bdc06a7, 0xc19bf174,
	0xe49b69c1, 0xefbe4786, 0x0fc19dc6, 0x240ca1cc, 0x2de92c6f, 0x4a7484aa, 0x5cb0a9dc, 0x76f988da,
	0x983e5152, 0xa831c66d, 0xb00327c8, 0xbf597fc7, 0xc6e00bf3, 0xd5a79147, 0x06ca6351, 0x14292967,
	0x27b70a85, 0x2e1b2138, 0x4d2c6dfc, 0x53380d13, 0x650a7354, 0x766a0abb, 0x81c2c92e, 0x92722c85,
	0xa2bfe8a1, 0xa81a664b, 0xc24b8b70, 0xc76c51a3, 0xd192e819, 0xd6990624, 0xf40e3585, 0x106aa070,
	0x19a4c116, 0x1e376c08, 0x2748774c, 0x34b0bcb5, 0x391c0cb3, 0x4ed8aa4a, 0x5b9cca4f, 0x682e6ff3,
	0x748f82ee, 0x78a5636f, 0x84c87814, 0x8cc70208, 0x90befffa, 0xa4506ceb, 0xbef9a3f7, 0xc67178f2,
}

// digest is the eight words behind all whole blocks, and the bytes that don't make a block yet.
type digest struct {
	words  [8]uint32
	block  [blockBytes]byte
	filled int
	length uint64
}

// Sum: of bytes, and further ones, one behind the other.
func Sum(parts ...[]byte) api.Hash {
	d := start()
	for _, part := range parts {
		d.add(part)
	}
	d.pad()
	return d.hash()
}

func start() digest {
	return digest{words: [8]uint32{
		0x6a09e667, 0xbb67ae85, 0x3c6ef372, 0xa54ff53a,
		0x510e527f, 0x9b05688c, 0x1f83d9ab, 0x5be0cd19,
	}}
}

func (d *digest) add(part []byte) {
	d.length += uint64(len(part))
	for len(part) > 0 {
		n := copy(d.block[d.filled:], part)
		part = part[n:]
		d.filled += n
		if d.filled == blockBytes {
			d.words = mix(d.words, d.block)
			d.filled = 0
		}
	}
}

func (d *digest) pad() {
	// Taken ahead of the padding, which add counts too.
	length := d.length * 8
	d.add([]byte{0x80})
	for d.filled != lengthPlace {
		d.add([]byte{0})
	}
	for shift := 56; shift >= 0; shift -= 8 {
		d.add([]byte{byte(length >> shift)})
	}
}

func (d *digest) hash() api.Hash {
	var h api.Hash
	for i, w := range d.words {
		h[4*i] = byte(w >> 24)
		h[4*i+1] = byte(w >> 16)
		h[4*i+2] = byte(w >> 8)
		h[4*i+3] = byte(w)
	}
	return h
}

// mix: the eight words behind a block more.
func mix(words [8]uint32, block [blockBytes]byte) [8]uint32 {
	w := schedule(block)
	a, b, c, d := words[0], words[1], words[2], words[3]
	e, f, g, h := words[4], words[5], words[6], words[7]
	for i := range 64 {
		t := h + turned(e, 6, 11, 25) + (e&f | ^e&g) + thirds[i] + w[i]
		u := turned(a, 2, 13, 22) + (a&b | a&c | b&c)
		h, g, f, e, d, c, b, a = g, f, e, d+t, c, b, a, t+u
	}
	for i, x := range [8]uint32{a, b, c, d, e, f, g, h} {
		words[i] += x
	}
	return words
}

// schedule: a block's sixteen words, and the 48 that come of them.
func schedule(block [blockBytes]byte) [64]uint32 {
	var w [64]uint32
	for i := range 16 {
		w[i] = uint32(block[4*i])<<24 | uint32(block[4*i+1])<<16 | uint32(block[4*i+2])<<8 | uint32(block[4*i+3])
	}
	for i := 16; i < 64; i++ {
		w[i] = w[i-16] + moved(w[i-15], 7, 18, 3) + w[i-7] + moved(w[i-2], 17, 19, 10)
	}
	return w
}

// turned: x turned right three times over, joined.
func turned(x uint32, i, j, k int) uint32 {
	return bits.RotateLeft32(x, -i) ^ bits.RotateLeft32(x, -j) ^ bits.RotateLeft32(x, -k)
}

// moved: x turned right twice, and moved right, joined.
func moved(x uint32, i, j int, k uint) uint32 {
	return bits.RotateLeft32(x, -i) ^ bits.RotateLeft32(x, -j) ^ x>>k
}
