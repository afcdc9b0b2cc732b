package rational

import (
	"strings"

	"sosopt/api"
	"sosopt/fraction"
	"sosopt/integer"
)

// value returns the value of s, where a string that is no number counts as 0.
func value(s string) fraction.Fraction {
	a, _ := fraction.Read(s)
	return a
}

// Parse reads digits, digits/digits or digits.digits, after a minus sign or none,
// and returns the number in canonical form.
func Parse(text string) (string, api.Errno) {
	if len(text) > api.MaxText {
		return "", api.ErrLimit
	}
	digits, negative := strings.CutPrefix(text, "-")
	num, den, ok := parseUnsigned(digits)
	switch {
	case !ok:
		return "", api.ErrSyntax
	case den.Sign() == 0:
		return "", api.ErrZero
	case negative:
		num = num.Neg()
	}
	return fraction.Quotient(num, den).String(), api.OK
}

// parseUnsigned returns the numerator and the denominator of a number without a
// sign as they are written, and false if the text has none of the three forms.
func parseUnsigned(text string) (integer.Int, integer.Int, bool) {
	switch i := strings.IndexAny(text, "/."); {
	case i < 0:
		num, ok := integer.FromDigits(text)
		return num, integer.FromInt64(1), ok
	case text[i] == '/':
		num, okNum := integer.FromDigits(text[:i])
		den, okDen := integer.FromDigits(text[i+1:])
		return num, den, okNum && okDen
	default:
		return parseDecimal(text[:i], text[i+1:])
	}
}

func parseDecimal(before, after string) (integer.Int, integer.Int, bool) {
	if before == "" || after == "" {
		return integer.Int{}, integer.Int{}, false
	}
	num, ok := integer.FromDigits(before + after)
	return num, integer.FromInt64(10).Pow(uint(len(after))), ok
}
