package rational_test

import (
	"math/big"
	"regexp"
	"strings"
	"testing"
)

func same[T comparable](t *testing.T, name string, got, want T) {
	t.Helper()
	if got != want {
		t.Errorf("%s: %v, not %v", name, got, want)
	}
}

// notNumbers are strings that are not in canonical form.
var notNumbers = []string{
	"", " ", "-", "+", "/", ".", "-/", "x", "-x", "NaN", "Inf", "1e3", "0x10", "1_000",
	"-0", "+0", "+1", "--1", "- 1", " 1", "1 ", "1\n", "\t1", "1\x00", "\x00", "\xff", "\xff\xfe1", "１", "1/２",
	"00", "01", "-01", "007", "-00", "0/1", "0/2", "-0/3", "0/0",
	"1/", "/1", "-/1", "1/1", "-5/1", "1/0", "-1/0", "0/-1", "1/-2", "1/+2", "1/02", "01/2", "1/00", "1//2", "1/2/", "/1/2", "1/2/3",
	"2/4", "-2/4", "6/3", "10/15", "-21/14", "7/7",
	"1.5", "1.", ".5", "0.0", "-1.5", "1/2.5", "1.5/2",
	"36893488147419103232/18446744073709551616", "-18446744073709551616/2", "3/" + "1" + strings.Repeat("0", 99) + "2",
	strings.Repeat("0", 100), strings.Repeat("1", 1000) + "/" + strings.Repeat("1", 500),
}

// numbers are strings in canonical form.
var numbers = []string{
	"0", "1", "-1", "2", "-2", "3", "10", "-10", "7/2", "-7/2", "1/2", "-1/2", "1/3", "2/3", "-3/4", "5/6", "9/4", "4/9", "25/49",
	"4294967295", "4294967296", "9223372036854775807", "9223372036854775808", "-9223372036854775808", "-9223372036854775809",
	"18446744073709551615", "18446744073709551616", "-18446744073709551617", "1/18446744073709551615", "-1/18446744073709551616", "18446744073709551615/18446744073709551616",
	"10000000000000000000", "9999999999999999999/10000000000000000000", "-1/1000000007", "123456789012345678901234567890/11",
	"340282366920938463463374607431768211456", "-340282366920938463463374607431768211455/2",
	"1" + strings.Repeat("0", 700), "-" + strings.Repeat("9", 700) + "/" + "2" + strings.Repeat("0", 699), "1/" + strings.Repeat("3", 1300),
}

var (
	canonicalForm = regexp.MustCompile(`^-?[0-9]+(/[0-9]+)?$`)
	inputForm     = regexp.MustCompile(`^-?[0-9]+([/.][0-9]+)?$`)
)

// rat returns the value of a string, in which anything that is no number counts
// as 0, and whether it is a number.
func rat(s string) (*big.Rat, bool) {
	if canonicalForm.MatchString(s) {
		if r, ok := new(big.Rat).SetString(s); ok && r.RatString() == s {
			return r, true
		}
	}
	return new(big.Rat), false
}

// generator is a source of bits that is the same in every run.
type generator uint64

func (g *generator) next() uint64 {
	*g ^= *g << 13
	*g ^= *g >> 7
	*g ^= *g << 17
	return uint64(*g)
}

func (g *generator) integer(bits uint64) *big.Int {
	n := new(big.Int)
	for i := uint64(0); i < bits; i += 64 {
		n.Lsh(n, 64)
		n.Or(n, new(big.Int).SetUint64(g.next()))
	}
	return n.Rsh(n, uint(g.next()%64))
}

// number returns a number whose numerator and denominator have up to about the
// given number of bits.
func (g *generator) number(bits uint64) string {
	den := g.integer(g.next()%bits + 1)
	r := new(big.Rat).SetFrac(g.integer(g.next()%bits+1), den.Add(den, big.NewInt(1)))
	if g.next()%2 == 0 {
		r.Neg(r)
	}
	return r.RatString()
}

// sample contains numbers, strings that count as 0, and random numbers of all
// lengths.
func sample() []string {
	list := append([]string{"x", "2/4", "-0"}, numbers...)
	g := generator(1)
	for _, bits := range []uint64{4, 4, 16, 64, 64, 128, 200, 1000} {
		list = append(list, g.number(bits), g.number(bits), g.number(bits))
	}
	return list
}

// smallNumbers are enough for laws with three numbers.
func smallNumbers() []string {
	list := []string{"0", "1", "-1", "1/2", "-2/3", "18446744073709551616", "-1/18446744073709551615"}
	g := generator(2)
	for _, bits := range []uint64{8, 64, 300} {
		list = append(list, g.number(bits))
	}
	return list
}
