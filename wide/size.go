package wide

import (
	"math/bits"

	"croft/api"
)

// size is a number without its sign, the lowest word first. 2^255, which no
// Int is, fits here: it is the least Int without its sign.
type size [4]uint64

// sizeOf is a without its sign.
func sizeOf(a Int) size {
	if below(a) {
		return minus(size{}, size(a))
	}
	return size(a)
}

// signed is the number of that size, below 0 if it should be.
func signed(n size, negative bool) (Int, api.Errno) {
	a := Int(n)
	if negative {
		a = Int(minus(size{}, n))
	}
	// The sign is another than was asked for just if the number doesn't fit;
	// nought alone has none.
	if n != (size{}) && below(a) != negative {
		return Int{}, api.ErrLarge
	}
	return a, api.OK
}

// compare holds two rows of words, of one length, against each other; the
// highest word, which counts most, is the last.
func compare(a, b []uint64) int {
	for i := len(a) - 1; i >= 0; i-- {
		switch {
		case a[i] < b[i]:
			return -1
		case a[i] > b[i]:
			return 1
		}
	}
	return 0
}

// plus is a + b; what is carried out of the highest word is lost.
func plus(a, b size) size {
	var sum size
	var carry uint64
	for i := range a {
		sum[i], carry = bits.Add64(a[i], b[i], carry)
	}
	return sum
}

// minus is a - b; what is borrowed for the highest word is lost.
func minus(a, b size) size {
	var rest size
	var borrow uint64
	for i := range a {
		rest[i], borrow = bits.Sub64(a[i], b[i], borrow)
	}
	return rest
}

// up is a with its bits moved n places up, n being 0 or more; those that go
// beyond the highest word are lost.
func up(a size, n int) size {
	var moved size
	words, rest := n/64, uint(n%64)
	for i := words; i < len(a); i++ {
		moved[i] = a[i-words] << rest
		if i > words {
			moved[i] |= a[i-words-1] >> (64 - rest)
		}
	}
	return moved
}

// down is a with its bits moved n places down, n being 0 or more; those that
// go below the lowest word are lost.
func down(a size, n int) size {
	var moved size
	words, rest := n/64, uint(n%64)
	for i := words; i < len(a); i++ {
		moved[i-words] = a[i] >> rest
		if i+1 < len(a) {
			moved[i-words] |= a[i+1] << (64 - rest)
		}
	}
	return moved
}

// length is how many bits a has, from its highest one on.
func length(a size) int {
	for i := len(a) - 1; i > 0; i-- {
		if a[i] != 0 {
			return 64*i + bits.Len64(a[i])
		}
	}
	return bits.Len64(a[0])
}

// timesWord is a times b, the lower word first. No word holds such a product,
// so it is put together of those of halves.
func timesWord(a, b uint64) (uint64, uint64) {
	aLow, aHigh := uint64(uint32(a)), a>>32
	bLow, bHigh := uint64(uint32(b)), b>>32
	low := aLow * bLow
	// Neither of these two sums goes beyond a word: a product of two halves is
	// at most 2^64 - 2^33 + 1, and what is added to it is below 2^32.
	mid := aHigh*bLow + low>>32
	cross := aLow*bHigh + uint64(uint32(mid))
	return cross<<32 | uint64(uint32(low)), aHigh*bHigh + mid>>32 + cross>>32
}

// product is a times b, of which no bit is lost.
func product(a, b size) [8]uint64 {
	var p [8]uint64
	for i, x := range a {
		if x == 0 {
			continue
		}
		var over uint64
		for j, y := range b {
			low, high := timesWord(x, y)
			var carry uint64
			low, carry = bits.Add64(low, over, 0)
			high += carry
			p[i+j], carry = bits.Add64(p[i+j], low, 0)
			over = high + carry
		}
		p[i+len(b)] = over
	}
	return p
}

// divide is a through b and what is left, b not being 0.
func divide(a, b size) (size, size) {
	if a == (size{a[0]}) && b == (size{b[0]}) {
		return size{a[0] / b[0]}, size{a[0] % b[0]}
	}
	places := length(a) - length(b)
	if places < 0 {
		return size{}, a
	}
	var q size
	// What is taken away is b, moved up until its highest bit is below a's,
	// and then down again place by place.
	for part := up(b, places); places >= 0; places-- {
		if compare(a[:], part[:]) >= 0 {
			a = minus(a, part)
			q[places/64] |= 1 << uint(places%64)
		}
		part = down(part, 1)
	}
	return q, a
}
