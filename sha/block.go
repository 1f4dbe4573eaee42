package sha

import (
	"math/bits"

	"compeer/octet"
)

const rounds = 64

// roots are of the cube roots of the first 64 primes: the first 32 bits behind the point.
var roots = [rounds]uint32{
	0x428a2f98, 0x71374491, 0xb5c0fbcf, 0xe9b5dba5, 0x3956c25b, 0x59f111f1, 0x923f82a4, 0xab1c5ed5,
	0xd807aa98, 0x12835b01, 0x243185be, 0x550c7dc3, 0x72be5d74, 0x80deb1fe, 0x9bdc06a7, 0xc19bf174,
	0xe49b69c1, 0xefbe4786, 0x0fc19dc6, 0x240ca1cc, 0x2de92c6f, 0x4a7484aa, 0x5cb0a9dc, 0x76f988da,
	0x983e5152, 0xa831c66d, 0xb00327c8, 0xbf597fc7, 0xc6e00bf3, 0xd5a79147, 0x06ca6351, 0x14292967,
	0x27b70a85, 0x2e1b2138, 0x4d2c6dfc, 0x53380d13, 0x650a7354, 0x766a0abb, 0x81c2c92e, 0x92722c85,
	0xa2bfe8a1, 0xa81a664b, 0xc24b8b70, 0xc76c51a3, 0xd192e819, 0xd6990624, 0xf40e3585, 0x106aa070,
	0x19a4c116, 0x1e376c08, 0x2748774c, 0x34b0bcb5, 0x391c0cb3, 0x4ed8aa4a, 0x5b9cca4f, 0x682e6ff3,
	0x748f82ee, 0x78a5636f, 0x84c87814, 0x8cc70208, 0x90befffa, 0xa4506ceb, 0xbef9a3f7, 0xc67178f2,
}

// mixed is what a block makes of the words. In v they are a to h.
func mixed(words [8]uint32, block [blockSize]byte) [8]uint32 {
	w := expanded(block)
	v := words
	for i := range rounds {
		t1 := v[7] + large1(v[4]) + chosen(v[4], v[5], v[6]) + roots[i] + w[i]
		t2 := large0(v[0]) + most(v[0], v[1], v[2])
		copy(v[1:], v[:])
		v[4] += t1
		v[0] = t1 + t2
	}
	for i := range v {
		v[i] += words[i]
	}
	return v
}

// expanded is the words of all rounds.
func expanded(block [blockSize]byte) [rounds]uint32 {
	var w [rounds]uint32
	const given = blockSize / wordSize
	for i := range given {
		n, _ := octet.Get(block[wordSize*i : wordSize*(i+1)])
		w[i] = uint32(n)
	}
	for i := given; i < rounds; i++ {
		w[i] = w[i-16] + small0(w[i-15]) + w[i-7] + small1(w[i-2])
	}
	return w
}

// small0 and small1 are the document's s0 and s1, large0 and large1 its S0 and S1.
func small0(w uint32) uint32 { return right(w, 7) ^ right(w, 18) ^ w>>3 }

func small1(w uint32) uint32 { return right(w, 17) ^ right(w, 19) ^ w>>10 }

func large0(w uint32) uint32 { return right(w, 2) ^ right(w, 13) ^ right(w, 22) }

func large1(w uint32) uint32 { return right(w, 6) ^ right(w, 11) ^ right(w, 25) }

// chosen has a bit of f where e has 1, and else of g.
func chosen(e, f, g uint32) uint32 { return e&f ^ ^e&g }

// most has the bit that at least two of three have.
func most(a, b, c uint32) uint32 { return a&b ^ a&c ^ b&c }

func right(w uint32, by int) uint32 { return bits.RotateLeft32(w, -by) }
