package fraction

import (
	"strings"

	"sosopt/integer"
)

// Read returns the value of a number in canonical form, and false for every other
// string.
func Read(s string) (Fraction, bool) {
	rest, negative := strings.CutPrefix(s, "-")
	before, after, hasSlash := strings.Cut(rest, "/")
	num, ok := readDigits(before)
	if !ok || num.Sign() == 0 && s != "0" {
		return Fraction{}, false
	}
	if negative {
		num = num.Neg()
	}
	if !hasSlash {
		return FromInteger(num), true
	}
	den, ok := readDigits(after)
	if !ok || den.Sign() == 0 || den.IsOne() || !num.GCD(den).IsOne() {
		return Fraction{}, false
	}
	return Fraction{num, den}, true
}

// readDigits reads digits without leading zeros.
func readDigits(digits string) (integer.Int, bool) {
	if len(digits) > 1 && digits[0] == '0' {
		return integer.Int{}, false
	}
	return integer.FromDigits(digits)
}

// ReadAll returns the values of numbers in canonical form, and false if one of the
// strings is no such number.
func ReadAll(list []string) ([]Fraction, bool) {
	values := make([]Fraction, len(list))
	for i, s := range list {
		value, ok := Read(s)
		if !ok {
			return nil, false
		}
		values[i] = value
	}
	return values, true
}

// String returns the canonical form of a.
func (a Fraction) String() string {
	if a.IsInteger() {
		return a.num.String()
	}
	return a.num.String() + "/" + a.den.String()
}

// Texts returns the canonical forms of the values.
func Texts(values []Fraction) []string {
	texts := make([]string, len(values))
	for i, value := range values {
		texts[i] = value.String()
	}
	return texts
}
