// Package word is layer 1: numbers as bytes of a fixed length, the lowest
// byte first, and what shifting and cutting make of bits.
package word

import "math/bits"

// The lengths that a number of 64 bits has.
const (
	most  = 8  // bytes
	whole = 64 // bits
)

// Put answers the lowest size bytes of n, the lowest first; nothing, if size
// isn't 0 to 8.
func Put(n uint64, size int) string {
	if !isSize(size) {
		return ""
	}
	var out [most]byte
	for i := range size {
		out[i] = byte(n >> (8 * i))
	}
	return string(out[:size])
}

// Get answers the number whose Put the size bytes of s from at on are; false,
// if there is no such size or s hasn't these bytes.
func Get(s string, at, size int) (uint64, bool) {
	// The size is taken from the length: at + size may be too great for an int.
	if !isSize(size) || at < 0 || at > len(s)-size {
		return 0, false
	}
	var n uint64
	for i := range size {
		n |= uint64(s[at+i]) << (8 * i)
	}
	return n, true
}

func isSize(size int) bool { return 0 <= size && size <= most }

// Fold answers 2 n, if n is 0 or more, else -2 n - 1.
func Fold(n int64) uint64 {
	// Shifted so far, a number is all ones below 0, else all noughts: all bits
	// of 2 n are turned just below 0, and nothing runs over on the way.
	return uint64(n)<<1 ^ uint64(n>>(whole-1))
}

// Unfold answers the n whose Fold is u.
func Unfold(u uint64) int64 {
	return int64(u>>1 ^ -(u & 1))
}

// Fits tells whether bits is 1 to 64 and n is from -2^(bits-1) to
// 2^(bits-1) - 1.
func Fits(n int64, bits int) bool {
	if bits < 1 || bits > whole {
		return false
	}
	rest := n >> (bits - 1)
	return rest == 0 || rest == -1
}

// Cut answers the rest of u by 2^bits: u itself for bits of 64 and more, 0 for
// bits below 1.
func Cut(u uint64, bits int) uint64 {
	switch {
	case bits < 1:
		return 0
	case bits >= whole:
		return u
	}
	return u & (1<<bits - 1)
}

// Width answers how many bits u has: 0 of 0, else the least k with u below 2^k.
func Width(u uint64) int { return bits.Len64(u) }
