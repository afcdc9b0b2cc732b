// Package rational is layer 1: see shared/doc/01-rational.md. It computes with
// rational numbers of any size, which are strings in canonical form: "0", "-3",
// "7/2". A string that is no number counts as 0.
package rational

import (
	"sosopt/api"
	"sosopt/fraction"
	"sosopt/integer"
)

// Valid reports whether s is a number in canonical form.
func Valid(s string) bool {
	_, ok := fraction.Read(s)
	return ok
}

// FromInt returns the number n.
func FromInt(n int64) string {
	return integer.FromInt64(n).String()
}

// Int64 returns the value of s, and false if s is no integer or not in the range
// of int64.
func Int64(s string) (int64, bool) {
	a, ok := fraction.Read(s)
	if !ok || !a.IsInteger() {
		return 0, false
	}
	return a.Num().Int64()
}

// Parts returns the numerator with its sign, and the denominator, which is "1"
// for an integer.
func Parts(s string) (string, string) {
	a := value(s)
	return a.Num().String(), a.Den().String()
}

// Sign returns -1, 0 or 1.
func Sign(s string) int {
	return value(s).Sign()
}

// Compare returns -1, 0 or 1 if a is less than, equal to or greater than b.
func Compare(a, b string) int {
	return value(a).Compare(value(b))
}

// Neg returns -a.
func Neg(a string) string {
	return value(a).Neg().String()
}

// Abs returns the absolute value of a.
func Abs(a string) string {
	return value(a).Abs().String()
}

// Add returns a + b.
func Add(a, b string) string {
	return value(a).Add(value(b)).String()
}

// Sub returns a - b.
func Sub(a, b string) string {
	return value(a).Sub(value(b)).String()
}

// Mul returns a * b.
func Mul(a, b string) string {
	return value(a).Mul(value(b)).String()
}

// Div returns a / b, and false if b is 0.
func Div(a, b string) (string, bool) {
	divisor := value(b)
	if divisor.Sign() == 0 {
		return "", false
	}
	return value(a).Div(divisor).String(), true
}

// Pow returns a to the power of n, and false if the absolute value of n exceeds
// MaxPower, or if a is 0 and n is negative.
func Pow(a string, n int) (string, bool) {
	base := value(a)
	switch {
	case n < -api.MaxPower || n > api.MaxPower:
		return "", false
	case n >= 0:
		return base.Pow(uint(n)).String(), true
	case base.Sign() == 0:
		return "", false
	}
	return base.Inverse().Pow(uint(-n)).String(), true
}

// Floor returns the greatest integer that is not greater than a.
func Floor(a string) string {
	return value(a).Floor().String()
}

// Ceil returns the least integer that is not less than a.
func Ceil(a string) string {
	return value(a).Neg().Floor().Neg().String()
}

// GCD returns the number that is not negative and of which the integer multiples
// are the sums of an integer multiple of a and one of b.
func GCD(a, b string) string {
	return value(a).GCD(value(b)).String()
}

// Root returns the number that is not negative and has the square a, and false
// if there is none.
func Root(a string) (string, bool) {
	root, ok := value(a).Root()
	if !ok {
		return "", false
	}
	return root.String(), true
}

// Bits returns the number of binary digits of the numerator and the denominator
// of a together.
func Bits(a string) int {
	v := value(a)
	return v.Num().BitLen() + v.Den().BitLen()
}
