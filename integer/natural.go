package integer

import (
	"cmp"
	"math/bits"
)

const wordBits = 64

// natural is a number that is not negative, in words of 64 bits: the least
// significant word comes first, and the last one is not 0. The words of a
// natural that a function has returned are never changed, so that naturals may
// share them.
type natural []uint64

// trim removes the leading zeros that a computation has left.
func trim(a natural) natural {
	for len(a) > 0 && a[len(a)-1] == 0 {
		a = a[:len(a)-1]
	}
	return a
}

func fromWord(w uint64) natural {
	return trim(natural{w})
}

// bitLen returns the number of binary digits of a, which is not 0.
func (a natural) bitLen() int {
	return (len(a)-1)*wordBits + bits.Len64(a[len(a)-1])
}

func (a natural) compare(b natural) int {
	if c := cmp.Compare(len(a), len(b)); c != 0 {
		return c
	}
	for i := len(a) - 1; i >= 0; i-- {
		if c := cmp.Compare(a[i], b[i]); c != 0 {
			return c
		}
	}
	return 0
}

// low returns the number that the first k words of a form.
func (a natural) low(k int) natural {
	return trim(a[:min(k, len(a))])
}

// high returns the number that the words of a after the first k form.
func (a natural) high(k int) natural {
	return a[min(k, len(a)):]
}

// join returns the number whose first k words are those of low and whose
// further words are those of high; low has at most k words.
func join(high, low natural, k int) natural {
	if len(high) == 0 {
		return low
	}
	whole := make(natural, k+len(high))
	copy(whole, low)
	copy(whole[k:], high)
	return whole
}

func (a natural) plus(b natural) natural {
	if len(a) < len(b) {
		a, b = b, a
	}
	sum := make(natural, len(a)+1)
	copy(sum, a)
	addTo(sum, b)
	return trim(sum)
}

// minus returns a - b, where a is at least b.
func (a natural) minus(b natural) natural {
	difference := make(natural, len(a))
	copy(difference, a)
	subtractFrom(difference, b)
	return trim(difference)
}

// addTo adds b to the words of a, which are at least as many, and returns what
// exceeds them.
func addTo(a, b []uint64) uint64 {
	var carry uint64
	for i, w := range b {
		a[i], carry = bits.Add64(a[i], w, carry)
	}
	for i := len(b); i < len(a) && carry != 0; i++ {
		a[i], carry = bits.Add64(a[i], 0, carry)
	}
	return carry
}

// subtractFrom subtracts b from the words of a, which are at least as many, and
// returns what is missing.
func subtractFrom(a, b []uint64) uint64 {
	var borrow uint64
	for i, w := range b {
		a[i], borrow = bits.Sub64(a[i], w, borrow)
	}
	for i := len(b); i < len(a) && borrow != 0; i++ {
		a[i], borrow = bits.Sub64(a[i], 0, borrow)
	}
	return borrow
}

// shiftLeft returns a * 2^n, where n is less than 64.
func (a natural) shiftLeft(n int) natural {
	shifted := make(natural, len(a)+1)
	for i, w := range a {
		shifted[i] |= w << n
		shifted[i+1] = w >> (wordBits - n)
	}
	return trim(shifted)
}

// shiftRight returns a / 2^n, rounded down, where n is less than 64.
func (a natural) shiftRight(n int) natural {
	shifted := make(natural, len(a))
	for i, w := range a {
		shifted[i] = w >> n
		if i > 0 {
			shifted[i-1] |= w << (wordBits - n)
		}
	}
	return trim(shifted)
}
