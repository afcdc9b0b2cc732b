package rational

import "sosopt/integer"

// fraction is a rational number in lowest terms; den is positive.
type fraction struct {
	num, den integer.Int
}

func whole(n integer.Int) fraction {
	return fraction{n, integer.FromInt64(1)}
}

// reduced returns num / den in lowest terms; den is positive.
func reduced(num, den integer.Int) fraction {
	common := num.GCD(den)
	return fraction{cancel(num, common), cancel(den, common)}
}

// cancel returns n / common, where common divides n. Most numbers have no common
// divisor, so that the division by 1 is worth avoiding.
func cancel(n, common integer.Int) integer.Int {
	if common.IsOne() {
		return n
	}
	quotient, _ := n.Div(common)
	return quotient
}

func (a fraction) neg() fraction {
	return fraction{a.num.Neg(), a.den}
}

// add looks for common divisors in the denominators first: whatever the sum and
// the common denominator have in common divides the part that these share.
func (a fraction) add(b fraction) fraction {
	shared := a.den.GCD(b.den)
	restA, restB := cancel(a.den, shared), cancel(b.den, shared)
	sum := a.num.Mul(restB).Add(b.num.Mul(restA))
	common := sum.GCD(shared)
	return fraction{cancel(sum, common), restA.Mul(cancel(b.den, common))}
}

// mul cancels before it multiplies, because that keeps the numbers short.
func (a fraction) mul(b fraction) fraction {
	left, right := a.num.GCD(b.den), b.num.GCD(a.den)
	return fraction{
		cancel(a.num, left).Mul(cancel(b.num, right)),
		cancel(a.den, right).Mul(cancel(b.den, left)),
	}
}

// inverse returns 1 / a; a is not 0.
func (a fraction) inverse() fraction {
	if a.num.Sign() < 0 {
		return fraction{a.den.Neg(), a.num.Neg()}
	}
	return fraction{a.den, a.num}
}

func (a fraction) power(n uint) fraction {
	return fraction{a.num.Pow(n), a.den.Pow(n)}
}

func (a fraction) compare(b fraction) int {
	return a.num.Mul(b.den).Compare(b.num.Mul(a.den))
}

func (a fraction) floor() integer.Int {
	quotient, _ := a.num.Div(a.den)
	return quotient
}

// gcd returns the quotient of the greatest common divisor of the numerators and
// the least common multiple of the denominators, which is in lowest terms.
func (a fraction) gcd(b fraction) fraction {
	shared := a.den.GCD(b.den)
	return fraction{a.num.GCD(b.num), a.den.Mul(cancel(b.den, shared))}
}

func (a fraction) root() (fraction, bool) {
	num, square := a.num.Root()
	if !square {
		return fraction{}, false
	}
	den, square := a.den.Root()
	if !square {
		return fraction{}, false
	}
	return fraction{num, den}, true
}
