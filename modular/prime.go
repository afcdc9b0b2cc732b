package modular

import (
	"math/bits"

	"sosopt/api"
)

// IsPrime reports whether n is a prime number that is at most MaxPrime. It is the
// test of Miller and Rabin: below 4759123141, every composite number fails it for
// one of the bases 2, 7 and 61.
func IsPrime(n int) bool {
	switch {
	case n < 2 || n > api.MaxPrime:
		return false
	case n%2 == 0:
		return n == 2
	}
	for _, base := range [...]uint64{2, 7, 61} {
		if !isProbablePrime(ring(n), base) {
			return false
		}
	}
	return true
}

// isProbablePrime reports whether the odd number m passes the test for a base
// that is prime: the sequence of squares that leads to the power m - 1 of the
// base begins with 1 or contains -1.
func isProbablePrime(m ring, base uint64) bool {
	last := uint64(m) - 1
	base %= uint64(m)
	if base == 0 {
		return true
	}
	squarings := bits.TrailingZeros64(last)
	power := m.power(base, last>>squarings)
	if power == 1 {
		return true
	}
	for range squarings {
		if power == last {
			return true
		}
		power = m.mul(power, power)
	}
	return false
}

// NextPrime returns the least prime number that is greater than n, and false if
// it exceeds MaxPrime.
func NextPrime(n int) (int, bool) {
	for p := max(n, 1); p < api.MaxPrime; {
		p++
		if IsPrime(p) {
			return p, true
		}
	}
	return 0, false
}
