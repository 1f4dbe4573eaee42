// Package octet is layer 1: bytes of numbers, and byte strings held against each other. See shared/doc/01-octet.md.
package octet

import "compeer/api"

// Put is the eight bytes of a number, the highest first.
func Put(n uint64) []byte {
	b := make([]byte, 8)
	for i := len(b) - 1; i >= 0; i-- {
		b[i] = byte(n)
		n >>= 8
	}
	return b
}

// Short is the fewest bytes of a number, at least one, the highest first.
func Short(n uint64) []byte {
	b := Put(n)
	for len(b) > 1 && b[0] == 0 {
		b = b[1:]
	}
	return b
}

// Get is the number of one to eight bytes; false: there are none, or more.
func Get(b []byte) (uint64, bool) {
	if len(b) == 0 || len(b) > 8 {
		return 0, false
	}
	n := uint64(0)
	for _, c := range b {
		n = n<<8 | uint64(c)
	}
	return n, true
}

// Equal goes through all bytes of both, so that the time it takes doesn't tell where the first difference is.
func Equal(a, b []byte) bool {
	differ := len(a) ^ len(b)
	for i := range max(len(a), len(b)) {
		differ |= int(at(a, i) ^ at(b, i))
	}
	return differ == 0
}

func at(b []byte, i int) byte {
	if i < len(b) {
		return b[i]
	}
	return 0
}

// Zero lays 0 into all bytes; it alone changes what it is given, for keys that must not stay.
func Zero(b []byte) { clear(b) }

// Key is the key of sixteen bytes; false: there are more, or fewer.
func Key(b []byte) (api.Key, bool) {
	var k api.Key
	if len(b) != len(k) {
		return api.Key{}, false
	}
	copy(k[:], b)
	return k, true
}

// Joined is byte strings, one behind the other; of a single one it is a copy.
func Joined(rows ...[]byte) []byte {
	var b []byte
	for _, r := range rows {
		b = append(b, r...)
	}
	return b
}
