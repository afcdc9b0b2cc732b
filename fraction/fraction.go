// Package fraction computes with rational numbers as pairs of integers. The layers
// read the numbers of their arguments once, compute with fractions, and write the
// results as strings.
package fraction

import "sosopt/integer"

// Fraction is a rational number; its zero value is 0. Fractions are values: no
// operation changes its operands.
type Fraction struct {
	num integer.Int
	den integer.Int // in lowest terms with num, and positive; or 0, which counts as 1
}

// FromInteger returns the fraction with the value n.
func FromInteger(n integer.Int) Fraction {
	return Fraction{num: n}
}

// One returns the fraction 1.
func One() Fraction {
	return FromInteger(integer.FromInt64(1))
}

// Quotient returns num / den; den is not 0.
func Quotient(num, den integer.Int) Fraction {
	common := num.GCD(den)
	if den.Sign() < 0 {
		common = common.Neg()
	}
	return Fraction{num.DivExact(common), den.DivExact(common)}
}

// Num returns the numerator with the sign of a.
func (a Fraction) Num() integer.Int {
	return a.num
}

// Den returns the denominator, which is positive.
func (a Fraction) Den() integer.Int {
	if a.den.Sign() == 0 {
		return integer.FromInt64(1)
	}
	return a.den
}

// IsInteger reports whether the denominator is 1.
func (a Fraction) IsInteger() bool {
	return a.den.Sign() == 0 || a.den.IsOne()
}

// IsOne reports whether a is 1.
func (a Fraction) IsOne() bool {
	return a.num.IsOne() && a.IsInteger()
}

// Sign returns -1, 0 or 1.
func (a Fraction) Sign() int {
	return a.num.Sign()
}

// Compare returns -1, 0 or 1 if a is less than, equal to or greater than b.
func (a Fraction) Compare(b Fraction) int {
	return a.num.Mul(b.Den()).Compare(b.num.Mul(a.Den()))
}

// Neg returns -a.
func (a Fraction) Neg() Fraction {
	return Fraction{a.num.Neg(), a.den}
}

// Abs returns the absolute value of a.
func (a Fraction) Abs() Fraction {
	return Fraction{a.num.Abs(), a.den}
}

// Add returns a + b. It looks for common divisors in the denominators first:
// whatever the sum and the common denominator have in common divides the part
// that these share.
func (a Fraction) Add(b Fraction) Fraction {
	if a.IsInteger() && b.IsInteger() {
		return FromInteger(a.num.Add(b.num))
	}
	denA, denB := a.Den(), b.Den()
	shared := denA.GCD(denB)
	restA, restB := denA.DivExact(shared), denB.DivExact(shared)
	sum := a.num.Mul(restB).Add(b.num.Mul(restA))
	common := sum.GCD(shared)
	return Fraction{sum.DivExact(common), restA.Mul(denB.DivExact(common))}
}

// Sub returns a - b.
func (a Fraction) Sub(b Fraction) Fraction {
	return a.Add(b.Neg())
}

// Mul returns a * b. It cancels before it multiplies, because that keeps the
// numbers short.
func (a Fraction) Mul(b Fraction) Fraction {
	if a.IsInteger() && b.IsInteger() {
		return FromInteger(a.num.Mul(b.num))
	}
	denA, denB := a.Den(), b.Den()
	left, right := a.num.GCD(denB), b.num.GCD(denA)
	return Fraction{
		a.num.DivExact(left).Mul(b.num.DivExact(right)),
		denA.DivExact(right).Mul(denB.DivExact(left)),
	}
}

// Inverse returns 1 / a; a is not 0.
func (a Fraction) Inverse() Fraction {
	if a.Sign() < 0 {
		return Fraction{a.Den().Neg(), a.num.Neg()}
	}
	return Fraction{a.Den(), a.num}
}

// Div returns a / b; b is not 0.
func (a Fraction) Div(b Fraction) Fraction {
	return a.Mul(b.Inverse())
}

// Pow returns a to the power of n; the power 0 is 1.
func (a Fraction) Pow(n uint) Fraction {
	return Fraction{a.num.Pow(n), a.Den().Pow(n)}
}

// Floor returns the greatest integer that is not greater than a.
func (a Fraction) Floor() integer.Int {
	quotient, _ := a.num.Div(a.Den())
	return quotient
}

// GCD returns the number that is not negative and of which the integer multiples
// are the sums of an integer multiple of a and one of b: the quotient of the
// greatest common divisor of the numerators and the least common multiple of the
// denominators, which is in lowest terms.
func (a Fraction) GCD(b Fraction) Fraction {
	denA, denB := a.Den(), b.Den()
	shared := denA.GCD(denB)
	return Fraction{a.num.GCD(b.num), denA.Mul(denB.DivExact(shared))}
}

// Primitive returns the content of the values, which is their greatest common
// divisor, and the integers without a common divisor of which the values are the
// products with the content. If all values are 0, the content and the integers
// are 0.
func Primitive(values []Fraction) ([]integer.Int, Fraction) {
	integers := make([]integer.Int, len(values))
	var content Fraction
	for _, value := range values {
		content = content.GCD(value)
	}
	if content.Sign() == 0 {
		return integers, content
	}
	factor := content.Inverse()
	for i, value := range values {
		integers[i] = value.Mul(factor).Num()
	}
	return integers, content
}

// Root returns the number that is not negative and has the square a, and false
// if there is none.
func (a Fraction) Root() (Fraction, bool) {
	num, square := a.num.Root()
	if !square {
		return Fraction{}, false
	}
	den, square := a.Den().Root()
	if !square {
		return Fraction{}, false
	}
	return Fraction{num, den}, true
}
