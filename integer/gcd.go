package integer

import (
	"math/bits"
	"slices"
)

// gcd returns the greatest common divisor by the algorithm of Lehmer: many steps
// of Euclid's algorithm are found from the first bits alone and then applied to
// the long numbers at once.
func gcd(a, b natural) natural {
	if a.compare(b) < 0 {
		a, b = b, a
	}
	for len(b) > 1 {
		found := findSteps(a, b)
		if found.count > 0 {
			a, b = found.apply(a, b)
			continue
		}
		_, rest := a.divide(b)
		a, b = b, rest
	}
	if len(b) == 0 {
		return a
	}
	return fromWord(gcdWords(b[0], restByWord(a, b[0])))
}

func gcdWords(a, b uint64) uint64 {
	if a == 0 || b == 0 {
		return a | b
	}
	shift := bits.TrailingZeros64(a | b)
	a >>= bits.TrailingZeros64(a)
	for b != 0 {
		b >>= bits.TrailingZeros64(b)
		if a > b {
			a, b = b, a
		}
		b -= a
	}
	return a << shift
}

// steps stands for some steps of Euclid's algorithm on a and b: after an even
// number of them, a has become aA * a - bA * b, and b has become
// bB * b - aB * a; after an odd number, the signs are the other way round.
type steps struct {
	count          int
	aA, bA, aB, bB uint64
}

// findSteps returns those steps that the first 64 bits of a, and the bits of b
// in the same places, determine. Collins's condition tells whether a quotient of
// the shortened numbers is that of a and b; it also keeps the factors below
// 2^32, and those that it rejects below 2^64.
func findSteps(a, b natural) steps {
	found := steps{aA: 1, bB: 1}
	x, y := heads(a, b)
	for y != 0 {
		quotient, rest := x/y, x%y
		nextA := found.aA + quotient*found.aB
		nextB := found.bA + quotient*found.bB
		if rest < nextB || y-rest < found.bB+nextB {
			break
		}
		x, y = y, rest
		found.aA, found.aB = found.aB, nextA
		found.bA, found.bB = found.bB, nextB
		found.count++
	}
	return found
}

// heads returns the first 64 bits of a and the bits of b in the same places. b
// has at least two words, and a is at least b.
func heads(a, b natural) (uint64, uint64) {
	n := len(a)
	shift := bits.LeadingZeros64(a[n-1])
	x := a[n-1]<<shift | a[n-2]>>(wordBits-shift)
	switch n - len(b) {
	case 0:
		return x, b[n-1]<<shift | b[n-2]>>(wordBits-shift)
	case 1:
		return x, b[n-2] >> (wordBits - shift)
	}
	return x, 0
}

func (s steps) apply(a, b natural) (natural, natural) {
	if s.count%2 == 0 {
		return minusProducts(a, s.aA, b, s.bA), minusProducts(b, s.bB, a, s.aB)
	}
	return minusProducts(b, s.bA, a, s.aA), minusProducts(a, s.aB, b, s.bB)
}

// minusProducts returns a * x - b * y, which is not negative and no longer than
// the longer one of a and b.
func minusProducts(a natural, x uint64, b natural, y uint64) natural {
	size := max(len(a), len(b))
	a, b = widen(a, size), widen(b, size)
	difference := make(natural, size)
	var carryA, carryB, borrow, c uint64
	for i := range difference {
		highA, lowA := bits.Mul64(a[i], x)
		lowA, c = bits.Add64(lowA, carryA, 0)
		carryA, _ = bits.Add64(highA, 0, c)
		highB, lowB := bits.Mul64(b[i], y)
		lowB, c = bits.Add64(lowB, carryB, 0)
		carryB, _ = bits.Add64(highB, 0, c)
		difference[i], borrow = bits.Sub64(lowA, lowB, borrow)
	}
	return trim(difference)
}

// widen returns a with leading zeros up to the given number of words.
func widen(a natural, size int) natural {
	if len(a) == size {
		return a
	}
	return append(slices.Clip(a), make(natural, size-len(a))...)
}
