package integer

import "math/bits"

// From this number of words on, splitting the factors is faster than the
// multiplication by single words.
const splitWords = 100

func (a natural) times(b natural) natural {
	if len(a) < len(b) {
		a, b = b, a
	}
	switch {
	case len(b) == 0:
		return nil
	case len(b) < splitWords:
		return timesByWords(a, b)
	case 2*len(b) <= len(a):
		return timesByPieces(a, b)
	}
	return timesByHalves(a, b)
}

func timesByWords(a, b natural) natural {
	product := make(natural, len(a)+len(b))
	for i, w := range b {
		product[i+len(a)] = addProduct(product[i:i+len(a)], a, w)
	}
	return trim(product)
}

// addProduct adds a * w to the words of sum, which are as many as those of a,
// and returns what exceeds them.
func addProduct(sum, a []uint64, w uint64) uint64 {
	var carry, c uint64
	sum = sum[:len(a)]
	for i, v := range a {
		high, low := bits.Mul64(v, w)
		low, c = bits.Add64(low, carry, 0)
		high, _ = bits.Add64(high, 0, c)
		sum[i], c = bits.Add64(sum[i], low, 0)
		carry, _ = bits.Add64(high, 0, c)
	}
	return carry
}

// timesByPieces cuts the longer factor a into pieces that are as long as b.
func timesByPieces(a, b natural) natural {
	product := make(natural, len(a)+len(b))
	for i := 0; i < len(a); i += len(b) {
		addTo(product[i:], a.high(i).low(len(b)).times(b))
	}
	return trim(product)
}

// timesByHalves is the multiplication of Karatsuba: three products of numbers of
// half the length replace four.
func timesByHalves(a, b natural) natural {
	half := (len(a) + 1) / 2
	low := a.low(half).times(b.low(half))
	high := a.high(half).times(b.high(half))
	mixed := a.low(half).plus(a.high(half)).times(b.low(half).plus(b.high(half)))
	product := make(natural, len(a)+len(b))
	copy(product, low)
	copy(product[2*half:], high)
	addTo(product[half:], mixed.minus(low).minus(high))
	return trim(product)
}

// scale replaces a by a * w and returns what exceeds its words.
func scale(a []uint64, w uint64) uint64 {
	var carry, c uint64
	for i, v := range a {
		high, low := bits.Mul64(v, w)
		a[i], c = bits.Add64(low, carry, 0)
		carry, _ = bits.Add64(high, 0, c)
	}
	return carry
}

func (a natural) power(n uint) natural {
	result := natural{1}
	for i := bits.Len(n) - 1; i >= 0; i-- {
		result = result.times(result)
		if n>>i&1 == 1 {
			result = result.times(a)
		}
	}
	return result
}
