package integer

import "math/bits"

// From this number of words of the divisor and of the quotient on, splitting
// them is faster than the division by single words.
const splitDivisor = 240

// divide returns the quotient a / b, rounded down, and the remainder; b is not 0.
func (a natural) divide(b natural) (natural, natural) {
	if a.compare(b) < 0 {
		return nil, a
	}
	if len(b) == 1 {
		quotient := make(natural, len(a))
		copy(quotient, a)
		rest := divideByWord(quotient, b[0])
		return trim(quotient), fromWord(rest)
	}
	shift := bits.LeadingZeros64(b[len(b)-1])
	quotient, rest := a.shiftLeft(shift).divideScaled(b.shiftLeft(shift))
	return quotient, rest.shiftRight(shift)
}

// divideByWord replaces a by its quotient by w and returns the remainder.
func divideByWord(a []uint64, w uint64) uint64 {
	var rest uint64
	for i := len(a) - 1; i >= 0; i-- {
		a[i], rest = bits.Div64(rest, a[i], w)
	}
	return rest
}

// restByWord returns the remainder of a by w.
func restByWord(a natural, w uint64) uint64 {
	var rest uint64
	for i := len(a) - 1; i >= 0; i-- {
		rest = bits.Rem64(rest, a[i], w)
	}
	return rest
}

// divideScaled divides by a number whose highest bit is set.
func (a natural) divideScaled(b natural) (natural, natural) {
	extra := len(a) - len(b)
	switch {
	case a.compare(b) < 0:
		return nil, a
	case extra < splitDivisor || len(b) < splitDivisor:
		return divideByDigits(a, b)
	case extra > len(b):
		return divideByPieces(a, b)
	case extra < len(b):
		return divideByHead(a, b, len(b)-extra)
	}
	half := extra / 2
	high, rest := divideByHead(a.high(half), b, half)
	low, rest := divideByHead(join(rest, a.low(half), half), b, half)
	return join(high, low, half), rest
}

// divideByPieces brings down as many words of a at a time as b has.
func divideByPieces(a, b natural) (natural, natural) {
	size := len(b)
	quotient := make(natural, len(a)+1)
	var rest, part natural
	for i := (len(a) - 1) / size * size; i >= 0; i -= size {
		part, rest = join(rest, a.high(i).low(size), size).divideScaled(b)
		copy(quotient[i:], part)
	}
	return trim(quotient), rest
}

// divideByHead divides without the last k words of both numbers and then
// corrects the quotient. It has to be corrected only a few times if it has no
// more words than the head of b.
func divideByHead(a, b natural, k int) (natural, natural) {
	quotient, rest := a.high(k).divideScaled(b.high(k))
	rest = join(rest, a.low(k), k)
	product := quotient.times(b.low(k))
	for rest.compare(product) < 0 {
		quotient = quotient.minus(natural{1})
		rest = rest.plus(b)
	}
	return quotient, rest.minus(product)
}

// divideByDigits is long division with words as digits. The highest bit of b is
// set, b has at least two words, and a is at least b.
func divideByDigits(a, b natural) (natural, natural) {
	rest := make(natural, len(a)+1)
	copy(rest, a)
	quotient := make(natural, len(a)-len(b)+1)
	for i := len(quotient) - 1; i >= 0; i-- {
		window := rest[i : i+len(b)+1]
		digit := guessDigit(window, b)
		missing := subtractProduct(window[:len(b)], b, digit)
		window[len(b)], missing = bits.Sub64(window[len(b)], missing, 0)
		for missing != 0 {
			digit--
			missing -= addTo(window, b)
		}
		quotient[i] = digit
	}
	return trim(quotient), trim(rest[:len(b)])
}

// guessDigit returns the digit of a quotient as it follows from the first three
// words of a and the first two of b, so that it is hardly ever too large.
func guessDigit(a, b []uint64) uint64 {
	n := len(b)
	if a[n] >= b[n-1] {
		return 1<<wordBits - 1
	}
	digit, rest := bits.Div64(a[n], a[n-1], b[n-1])
	for {
		high, low := bits.Mul64(digit, b[n-2])
		if high < rest || high == rest && low <= a[n-2] {
			return digit
		}
		digit--
		sum, carry := bits.Add64(rest, b[n-1], 0)
		if carry != 0 {
			return digit
		}
		rest = sum
	}
}

// subtractProduct subtracts b * w from the words of a, which are as many as those
// of b, and returns what is missing.
func subtractProduct(a, b []uint64, w uint64) uint64 {
	var carry, c uint64
	a = a[:len(b)]
	for i, v := range b {
		high, low := bits.Mul64(v, w)
		low, c = bits.Add64(low, carry, 0)
		high, _ = bits.Add64(high, 0, c)
		a[i], c = bits.Sub64(a[i], low, 0)
		carry, _ = bits.Add64(high, 0, c)
	}
	return carry
}
