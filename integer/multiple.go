package integer

// SmallMultiple returns the first remainder of Euclid's algorithm on the modulus
// and x that is at most bound, and a factor: the product of x and the factor is
// congruent to the remainder. The modulus is positive, and bound is not negative.
func (x Int) SmallMultiple(modulus, bound Int) (Int, Int) {
	_, rest := x.Div(modulus)
	limit := bound.natural()
	s := multiples{a: modulus.natural(), b: rest.natural(), factorB: natural{1}}
	for s.b.compare(limit) > 0 {
		s = s.advance(limit)
	}
	return signed(false, s.b), signed(s.negative, s.factorB)
}

// multiples is a state of Euclid's algorithm on a modulus and a number x: two
// successive remainders, and the absolute values of the factors of x that are
// congruent to them. These have different signs; negative is that of factorB.
type multiples struct {
	a, b             natural
	factorA, factorB natural
	negative         bool
}

// advance takes some steps at once, but only one step if they lead beyond the
// first remainder that is at most limit.
func (s multiples) advance(limit natural) multiples {
	if len(s.b) > 1 {
		found := findSteps(s.a, s.b)
		if next := s.leap(found); found.count > 0 && next.a.compare(limit) > 0 {
			return next
		}
	}
	return s.step()
}

func (s multiples) step() multiples {
	quotient, rest := s.a.divide(s.b)
	factor := s.factorA.plus(quotient.times(s.factorB))
	return multiples{s.b, rest, s.factorB, factor, !s.negative}
}

func (s multiples) leap(found steps) multiples {
	a, b := found.apply(s.a, s.b)
	return multiples{
		a, b,
		plusProducts(s.factorA, found.aA, s.factorB, found.bA),
		plusProducts(s.factorA, found.aB, s.factorB, found.bB),
		s.negative != (found.count%2 == 1),
	}
}

// plusProducts returns a * x + b * y.
func plusProducts(a natural, x uint64, b natural, y uint64) natural {
	return a.times(fromWord(x)).plus(b.times(fromWord(y)))
}
