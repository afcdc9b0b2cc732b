// Package integer computes with integers of any size. It is the arithmetic that
// package rational is built on.
package integer

import (
	"cmp"
	"math"
	"math/bits"
)

// Int is an integer; its zero value is 0. Ints are values: no operation changes
// its operands.
type Int struct {
	small int64
	long  *long // nil if the number is small
}

// long is a number that is not in the range of int64. It is never changed, so
// that Ints may share it.
type long struct {
	negative bool
	size     natural // the absolute value
}

// FromInt64 returns the Int with the value n.
func FromInt64(n int64) Int {
	return Int{small: n}
}

// Int64 returns the value of x, and false if it is not in the range of int64.
func (x Int) Int64() (int64, bool) {
	return x.small, x.long == nil
}

// signed returns the number with the given sign and absolute value.
func signed(negative bool, size natural) Int {
	switch len(size) {
	case 0:
		return Int{}
	case 1:
		return signedWord(negative, size[0])
	}
	return Int{long: &long{negative, size}}
}

func signedWord(negative bool, size uint64) Int {
	switch {
	case !negative && size <= math.MaxInt64:
		return Int{small: int64(size)}
	case negative && size <= 1<<63:
		return Int{small: int64(-size)}
	}
	return Int{long: &long{negative, natural{size}}}
}

// word returns the absolute value of a small number.
func (x Int) word() uint64 {
	if x.small < 0 {
		return -uint64(x.small)
	}
	return uint64(x.small)
}

// natural returns the absolute value.
func (x Int) natural() natural {
	if x.long == nil {
		return fromWord(x.word())
	}
	return x.long.size
}

func (x Int) negative() bool {
	if x.long == nil {
		return x.small < 0
	}
	return x.long.negative
}

// Sign returns -1, 0 or 1.
func (x Int) Sign() int {
	switch {
	case x.negative():
		return -1
	case x.long == nil && x.small == 0:
		return 0
	}
	return 1
}

// IsOne reports whether x is 1.
func (x Int) IsOne() bool {
	return x.long == nil && x.small == 1
}

// Compare returns -1, 0 or 1 if x is less than, equal to or greater than y.
func (x Int) Compare(y Int) int {
	switch {
	case x.long == nil && y.long == nil:
		return cmp.Compare(x.small, y.small)
	case x.negative() != y.negative():
		return cmp.Compare(x.Sign(), y.Sign())
	case x.negative():
		return y.natural().compare(x.natural())
	}
	return x.natural().compare(y.natural())
}

// BitLen returns the number of binary digits of the absolute value; it is 0 for
// the number 0.
func (x Int) BitLen() int {
	if x.long == nil {
		return bits.Len64(x.word())
	}
	return x.long.size.bitLen()
}

// Neg returns -x.
func (x Int) Neg() Int {
	if x.long == nil && x.small != math.MinInt64 {
		return Int{small: -x.small}
	}
	return signed(!x.negative(), x.natural())
}

// Abs returns the absolute value of x.
func (x Int) Abs() Int {
	if x.negative() {
		return x.Neg()
	}
	return x
}

// Add returns x + y.
func (x Int) Add(y Int) Int {
	if x.long == nil && y.long == nil {
		if sum := x.small + y.small; (sum > x.small) == (y.small > 0) {
			return Int{small: sum}
		}
	}
	return addSizes(x.negative(), x.natural(), y.negative(), y.natural())
}

// Sub returns x - y.
func (x Int) Sub(y Int) Int {
	if x.long == nil && y.long == nil {
		if difference := x.small - y.small; (difference < x.small) == (y.small > 0) {
			return Int{small: difference}
		}
	}
	return addSizes(x.negative(), x.natural(), !y.negative(), y.natural())
}

// addSizes adds two numbers that are given by their signs and absolute values.
func addSizes(negativeA bool, a natural, negativeB bool, b natural) Int {
	switch {
	case negativeA == negativeB:
		return signed(negativeA, a.plus(b))
	case a.compare(b) >= 0:
		return signed(negativeA, a.minus(b))
	}
	return signed(negativeB, b.minus(a))
}

// Mul returns x * y.
func (x Int) Mul(y Int) Int {
	negative := x.negative() != y.negative()
	if x.long == nil && y.long == nil {
		if high, low := bits.Mul64(x.word(), y.word()); high == 0 {
			return signedWord(negative, low)
		}
	}
	return signed(negative, x.natural().times(y.natural()))
}

// Div returns the quotient x / y, rounded down, and the remainder x - quotient *
// y. For the divisor 0 these are 0 and x.
func (x Int) Div(y Int) (Int, Int) {
	if y.Sign() == 0 {
		return Int{}, x
	}
	quotient, rest := divideSizes(x, y)
	if rest.Sign() != 0 && x.negative() != y.negative() {
		return quotient.Sub(FromInt64(1)), rest.Add(y)
	}
	return quotient, rest
}

// divideSizes returns the quotient, rounded towards 0, and the remainder, which
// has the sign of x.
func divideSizes(x, y Int) (Int, Int) {
	negative := x.negative() != y.negative()
	if x.long == nil && y.long == nil {
		return signedWord(negative, x.word()/y.word()), Int{small: x.small % y.small}
	}
	quotient, rest := x.natural().divide(y.natural())
	return signed(negative, quotient), signed(x.negative(), rest)
}

// GCD returns the greatest common divisor, which is not negative; it is 0 if x
// and y are 0.
func (x Int) GCD(y Int) Int {
	switch {
	case x.IsOne() || y.IsOne():
		return FromInt64(1)
	case x.long == nil && y.long == nil:
		return signedWord(false, gcdWords(x.word(), y.word()))
	}
	return signed(false, gcd(x.natural(), y.natural()))
}

// Pow returns x to the power of n; the power 0 is 1.
func (x Int) Pow(n uint) Int {
	return signed(x.negative() && n%2 == 1, x.natural().power(n))
}

// FloorRoot returns the greatest number whose square is at most x; x is not
// negative.
func (x Int) FloorRoot() Int {
	return signed(false, x.natural().root())
}

// Root returns the number that is not negative and has the square x, and false
// if there is none.
func (x Int) Root() (Int, bool) {
	root := x.Abs().FloorRoot()
	if root.Mul(root).Compare(x) != 0 {
		return Int{}, false
	}
	return root, true
}
