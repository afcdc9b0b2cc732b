package modular

import (
	"slices"

	"sosopt/api"
	"sosopt/fraction"
	"sosopt/integer"
)

// Combine returns the least integer that is not negative and has the given
// residues modulo the given primes, and the product of these.
func Combine(residues, primes []int) (string, string, api.Errno) {
	if errno := checkPrimes(residues, primes); errno != api.OK {
		return "", "", errno
	}
	value, product := integer.FromInt64(0), integer.FromInt64(1)
	for i, p := range primes {
		m := ring(p)
		missing := m.add(m.residue(residues[i]), m.neg(m.restOf(value)))
		count := m.mul(missing, m.inverse(m.restOf(product)))
		value = value.Add(product.Mul(integer.FromInt64(int64(count))))
		product = product.Mul(integer.FromInt64(int64(p)))
	}
	return value.String(), product.String(), api.OK
}

func checkPrimes(residues, primes []int) api.Errno {
	switch {
	case len(residues) != len(primes):
		return api.ErrShape
	case len(primes) > api.MaxPrimes:
		return api.ErrLimit
	}
	for _, p := range primes {
		if !IsPrime(p) {
			return api.ErrInvalid
		}
	}
	for i, p := range primes {
		if slices.Contains(primes[:i], p) {
			return api.ErrDuplicate
		}
	}
	return api.OK
}

// restOf returns the residue of a number of any length.
func (m ring) restOf(n integer.Int) uint64 {
	_, rest := n.Div(integer.FromInt64(int64(m)))
	small, _ := rest.Int64()
	return uint64(small)
}

// Reconstruct returns the number n/d for which n - value * d is a multiple of the
// modulus, 2 * n * n and 2 * d * d are less than it, and d has no common divisor
// with it.
//
// If there is such a number, it is the one that Euclid's algorithm finds: the
// first remainder that is small enough, divided by its factor. The greatest
// common divisor of these two is also that of the factor and the modulus.
func Reconstruct(value, modulus string) (string, bool) {
	v, okValue := readInteger(value)
	m, okModulus := readInteger(modulus)
	if !okValue || !okModulus || m.Compare(integer.FromInt64(2)) < 0 {
		return "", false
	}
	bound := greatestPart(m)
	num, den := v.SmallMultiple(m, bound)
	if den.Sign() < 0 {
		num, den = num.Neg(), den.Neg()
	}
	if den.Compare(bound) > 0 || !num.GCD(den).IsOne() {
		return "", false
	}
	if den.IsOne() {
		return num.String(), true
	}
	return num.String() + "/" + den.String(), true
}

// greatestPart returns the greatest number of which twice the square is less than
// m, which is positive.
func greatestPart(m integer.Int) integer.Int {
	half, _ := m.Sub(integer.FromInt64(1)).Div(integer.FromInt64(2))
	return half.FloorRoot()
}

// readInteger returns the value of s, and false if s is no integer in canonical
// form.
func readInteger(s string) (integer.Int, bool) {
	a, ok := fraction.Read(s)
	return a.Num(), ok && a.IsInteger()
}
