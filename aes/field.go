package aes

import "math/bits"

// modulus is what x^8 is worth, modulo the polynomial of the field.
const modulus = 0x1b

// double is a byte times x.
func double(b byte) byte {
	if b&0x80 != 0 {
		return b<<1 ^ modulus
	}
	return b << 1
}

// substitutions is the substitution of each byte. All but 0 are powers of 3, and the inverse of one has the power that is missing to 255: so no inverse must be searched.
func substitutions() [256]byte {
	var powers [255]byte
	p := byte(1)
	for i := range powers {
		powers[i] = p
		p ^= double(p)
	}
	var subs [256]byte
	subs[0] = spread(0)
	for i := range powers {
		inverse := powers[(len(powers)-i)%len(powers)]
		subs[powers[i]] = spread(inverse)
	}
	return subs
}

// spread is a byte whose bits are sums of five of its bits, and of one of 0x63.
func spread(b byte) byte {
	s := b ^ 0x63
	for i := 1; i <= 4; i++ {
		s ^= bits.RotateLeft8(b, i)
	}
	return s
}
