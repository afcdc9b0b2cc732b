package integer

import "math/bits"

// DivExact returns x / y, where y divides x. For the divisor 0 it is 0.
func (x Int) DivExact(y Int) Int {
	negative := x.negative() != y.negative()
	switch {
	case y.Sign() == 0:
		return Int{}
	case y.IsOne():
		return x
	case x.long == nil && y.long == nil:
		return signedWord(negative, x.word()/y.word())
	}
	return signed(negative, x.natural().divideExactly(y.natural()))
}

// divideExactly returns a / b, where b is not 0 and divides a.
func (a natural) divideExactly(b natural) natural {
	if len(a) < len(b) {
		return nil
	}
	if len(b) >= splitDivisor && len(a)-len(b) >= splitDivisor {
		quotient, _ := a.divide(b)
		return quotient
	}
	for b[0] == 0 {
		a, b = a[1:], b[1:]
	}
	shift := bits.TrailingZeros64(b[0])
	return divideFromBelow(a.shiftRight(shift), b.shiftRight(shift))
}

// divideFromBelow replaces a by a / b, where b is odd and divides a. The last word
// of a and that of b alone determine the last one of the quotient. So the words
// of the quotient take the places of the words of a that they make 0, and the
// words of a beyond those of the quotient are not needed.
func divideFromBelow(a, b natural) natural {
	size := len(a) - len(b) + 1
	a = a[:size]
	inverse := inverseWord(b[0])
	for i := range a {
		digit := a[i] * inverse
		end := min(i+len(b), size)
		missing := subtractProduct(a[i:end], b[:end-i], digit)
		subtractWord(a[end:], missing)
		a[i] = digit
	}
	return trim(a)
}

// inverseWord returns the inverse of an odd number modulo 2^64. An odd number is
// its own inverse modulo 8, and each step doubles the number of right bits.
func inverseWord(w uint64) uint64 {
	inverse := w
	for right := 3; right < wordBits; right *= 2 {
		inverse *= 2 - w*inverse
	}
	return inverse
}

// subtractWord subtracts w from the words of a, as far as they reach.
func subtractWord(a []uint64, w uint64) {
	for i := 0; i < len(a) && w != 0; i++ {
		a[i], w = bits.Sub64(a[i], w, 0)
	}
}
