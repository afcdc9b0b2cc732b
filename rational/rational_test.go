package rational_test

import (
	"math"
	"math/big"
	"strconv"
	"strings"
	"testing"

	"sosopt/api"
	"sosopt/rational"
)

func TestP1_1Valid(t *testing.T) {
	for _, s := range append(sample()[3:], numbers...) {
		same(t, s, rational.Valid(s), true)
	}
	for _, s := range notNumbers {
		same(t, s, rational.Valid(s), false)
	}
}

// Every string of up to four of these characters is tried.
func TestP1_1ValidShortStrings(t *testing.T) {
	const alphabet = "0123469-/.+ "
	list := []string{""}
	for range 4 {
		var longer []string
		for _, s := range list {
			_, valid := rat(s)
			same(t, strconv.Quote(s), rational.Valid(s), valid)
			for _, c := range alphabet {
				longer = append(longer, s+string(c))
			}
		}
		list = longer
	}
	for _, s := range list {
		_, valid := rat(s)
		same(t, strconv.Quote(s), rational.Valid(s), valid)
	}
}

func TestP1_1ValidLongFractions(t *testing.T) {
	g := generator(3)
	for range 20 {
		a, b := g.integer(6000), g.integer(6000)
		for _, s := range []string{
			a.String() + "/" + b.String(),
			new(big.Int).Mul(a, big.NewInt(3)).String() + "/" + new(big.Int).Mul(b, big.NewInt(3)).String(),
			new(big.Int).Mul(a, b).String() + "/" + b.String(),
		} {
			_, valid := rat(s)
			same(t, s, rational.Valid(s), valid)
		}
	}
}

func TestP1_1FromInt(t *testing.T) {
	for n, want := range map[int64]string{
		0: "0", 1: "1", -1: "-1", 1000: "1000", -120: "-120",
		math.MaxInt64:     "9223372036854775807",
		math.MinInt64:     "-9223372036854775808",
		math.MinInt64 + 1: "-9223372036854775807",
		math.MaxUint32:    "4294967295",
	} {
		same(t, want, rational.FromInt(n), want)
	}
}

func TestP1_1Int64(t *testing.T) {
	for _, n := range []int64{0, 1, -1, 9, 10, -10, 1 << 32, -1 << 32, math.MaxInt64 - 1, math.MaxInt64, math.MinInt64, math.MinInt64 + 1} {
		got, ok := rational.Int64(rational.FromInt(n))
		same(t, "Int64", got, n)
		same(t, "Int64", ok, true)
	}
	for _, s := range append([]string{
		"9223372036854775808", "-9223372036854775809", "18446744073709551615", "18446744073709551616", "-18446744073709551616",
		"1/2", "-7/2", "1/9223372036854775807", "1" + strings.Repeat("0", 400),
	}, notNumbers...) {
		got, ok := rational.Int64(s)
		same(t, s, got, 0)
		same(t, s, ok, false)
	}
}

func TestP1_2Parse(t *testing.T) {
	zeros := strings.Repeat("0", 50)
	for text, want := range map[string]string{
		"0": "0", "-0": "0", "000": "0", "-000": "0", "0/5": "0", "-0/005": "0", "0.0": "0", "-0.000": "0",
		"7": "7", "-7": "-7", "007": "7", "-007": "-7", zeros + "12": "12",
		"6/4": "3/2", "-06/4": "-3/2", "4/2": "2", "5/5": "1", "-5/1": "-5", "01/02": "1/2", "1/" + zeros + "3": "1/3", "3/1": "3",
		"0.250": "1/4", "1.5": "3/2", "-1.5": "-3/2", "00.5": "1/2", "3.000": "3", "-0.5": "-1/2", "12.34": "617/50", "0." + zeros + "1": "1/10" + zeros, "2.0000000000000000000000000000001": "20000000000000000000000000000001/10000000000000000000000000000000",
		"18446744073709551616/36893488147419103232":          "1/2",
		"-1000000000000000000000/3000000000000000000000":     "-1/3",
		"99999999999999999999999999999999999999999999999998": "99999999999999999999999999999999999999999999999998",
	} {
		got, e := rational.Parse(text)
		same(t, text, got, want)
		same(t, text, e, api.OK)
	}
}

func TestP1_2ParseKeepsCanonicalForm(t *testing.T) {
	for _, s := range numbers {
		got, e := rational.Parse(s)
		same(t, s, got, s)
		same(t, s, e, api.OK)
	}
}

func TestP1_2ParseErrors(t *testing.T) {
	for _, text := range []string{
		"", "-", "+1", "--1", "-+1", " 1", "1 ", "- 1", "1\n", "x", "1x", "x1", "1e3", "0x1", "1,5", "1_0", "\x00", "1\x00", "\xff", "-\xff/\xfe", "１",
		".", "1.", ".5", "-.5", "-.", "1..5", "1.5.", "1.2.3", "1.-5", "1.+5",
		"/", "1/", "/2", "-/2", "1/-2", "1/+2", "1//2", "1/2/3", "1/2/", "1/ 2", "1.2/3", "1/2.5", "1/.5", "1./2", "x/0", "/0", "1.5/0", "0/0/0", "1/0x", "--1/0",
	} {
		got, e := rational.Parse(text)
		same(t, text, got, "")
		same(t, text, e, api.ErrSyntax)
	}
	for _, text := range []string{"1/0", "-1/0", "0/0", "-0/0", "1/00", "00/000", "12345678901234567890123/0"} {
		got, e := rational.Parse(text)
		same(t, text, got, "")
		same(t, text, e, api.ErrZero)
	}
}

func TestP1_2ParseLimit(t *testing.T) {
	digits := strings.Repeat("7", api.MaxText)
	for text, want := range map[string]string{
		digits:                                          digits,
		"-" + digits[1:]:                                "-" + digits[1:],
		strings.Repeat("0", api.MaxText):                "0",
		strings.Repeat("0", api.MaxText-1) + "8":        "8",
		"3/" + strings.Repeat("0", api.MaxText-3) + "6": "1/2",
		"0." + strings.Repeat("0", api.MaxText-3) + "1": "1/1" + strings.Repeat("0", api.MaxText-2),
	} {
		same(t, "bytes", len(text), api.MaxText)
		got, e := rational.Parse(text)
		same(t, text, got, want)
		same(t, text, e, api.OK)
	}
	for text, want := range map[string]api.Errno{
		strings.Repeat("x", api.MaxText):              api.ErrSyntax,
		"1/" + strings.Repeat("0", api.MaxText-2):     api.ErrZero,
		strings.Repeat("7", api.MaxText+1):            api.ErrLimit,
		strings.Repeat("x", api.MaxText+1):            api.ErrLimit,
		"1/" + strings.Repeat("0", api.MaxText-1):     api.ErrLimit,
		strings.Repeat("\u00e9", api.MaxText/2) + "1": api.ErrLimit,
		strings.Repeat("0", 100*api.MaxText):          api.ErrLimit,
	} {
		got, e := rational.Parse(text)
		same(t, text, got, "")
		same(t, text, e, want)
	}
}

func TestP1_3Parts(t *testing.T) {
	for s, want := range map[string][2]string{
		"-3/4": {"-3", "4"}, "3/4": {"3", "4"}, "5": {"5", "1"}, "-5": {"-5", "1"}, "0": {"0", "1"},
		"-18446744073709551617/18446744073709551616": {"-18446744073709551617", "18446744073709551616"},
	} {
		num, den := rational.Parts(s)
		same(t, s, [2]string{num, den}, want)
	}
	for _, s := range notNumbers {
		num, den := rational.Parts(s)
		same(t, s, [2]string{num, den}, [2]string{"0", "1"})
	}
}

func TestP1_3SignAndCompare(t *testing.T) {
	for _, a := range sample() {
		r, _ := rat(a)
		same(t, a, rational.Sign(a), r.Sign())
		for _, b := range sample() {
			q, _ := rat(b)
			same(t, a+" and "+b, rational.Compare(a, b), r.Cmp(q))
		}
	}
	for _, s := range notNumbers {
		same(t, s, rational.Sign(s), 0)
		same(t, s, rational.Compare(s, "0"), 0)
		same(t, s, rational.Compare(s, "-1/9"), 1)
		same(t, s, rational.Compare("-1/9", s), -1)
	}
}

func TestP1_4NegAndAbs(t *testing.T) {
	for _, a := range append(sample(), notNumbers...) {
		r, _ := rat(a)
		same(t, "Neg "+a, rational.Neg(a), new(big.Rat).Neg(r).RatString())
		same(t, "Abs "+a, rational.Abs(a), new(big.Rat).Abs(r).RatString())
	}
}

func TestP1_4Arithmetic(t *testing.T) {
	for _, a := range sample() {
		r, _ := rat(a)
		for _, b := range sample() {
			q, _ := rat(b)
			name := a + " and " + b
			same(t, "Add "+name, rational.Add(a, b), new(big.Rat).Add(r, q).RatString())
			same(t, "Sub "+name, rational.Sub(a, b), new(big.Rat).Sub(r, q).RatString())
			same(t, "Mul "+name, rational.Mul(a, b), new(big.Rat).Mul(r, q).RatString())
			want := ""
			if q.Sign() != 0 {
				want = new(big.Rat).Quo(r, q).RatString()
			}
			got, ok := rational.Div(a, b)
			same(t, "Div "+name, got, want)
			same(t, "Div "+name, ok, q.Sign() != 0)
		}
	}
}

// Sums of fractions whose denominators share divisors have to be reduced.
func TestP1_4AddSmallFractions(t *testing.T) {
	var list []string
	for den := int64(1); den <= 12; den++ {
		for num := int64(-7); num <= 7; num++ {
			list = append(list, big.NewRat(num, den).RatString())
		}
	}
	for _, a := range list {
		for _, b := range list {
			r, _ := rat(a)
			q, _ := rat(b)
			same(t, a+" + "+b, rational.Add(a, b), new(big.Rat).Add(r, q).RatString())
			same(t, a+" - "+b, rational.Sub(a, b), new(big.Rat).Sub(r, q).RatString())
			same(t, a+" * "+b, rational.Mul(a, b), new(big.Rat).Mul(r, q).RatString())
		}
	}
}

func TestP1_4InvalidCountsAsZero(t *testing.T) {
	for _, s := range notNumbers {
		same(t, "Neg "+s, rational.Neg(s), "0")
		same(t, "Abs "+s, rational.Abs(s), "0")
		same(t, "Add "+s, rational.Add(s, "2/3"), "2/3")
		same(t, "Add "+s, rational.Add("2/3", s), "2/3")
		same(t, "Sub "+s, rational.Sub(s, "2/3"), "-2/3")
		same(t, "Sub "+s, rational.Sub("2/3", s), "2/3")
		same(t, "Mul "+s, rational.Mul(s, "2/3"), "0")
		same(t, "Mul "+s, rational.Mul("2/3", s), "0")
		quotient, ok := rational.Div(s, "2/3")
		same(t, "Div "+s, quotient, "0")
		same(t, "Div "+s, ok, true)
		quotient, ok = rational.Div("2/3", s)
		same(t, "Div by "+s, quotient, "")
		same(t, "Div by "+s, ok, false)
		power, ok := rational.Pow(s, 0)
		same(t, "Pow "+s, power, "1")
		same(t, "Pow "+s, ok, true)
		power, ok = rational.Pow(s, -1)
		same(t, "Pow "+s, power, "")
		same(t, "Pow "+s, ok, false)
	}
}

func TestP1_4Pow(t *testing.T) {
	for _, a := range []string{"1", "-1", "2", "-2", "2/3", "-2/3", "1/7", "-18446744073709551616/3", "10", "123456789123456789123456789"} {
		for _, n := range []int{0, 1, 2, 3, 5, 16, 63, 100, 999, api.MaxPower} {
			r, _ := rat(a)
			num := new(big.Int).Exp(r.Num(), big.NewInt(int64(n)), nil)
			den := new(big.Int).Exp(r.Denom(), big.NewInt(int64(n)), nil)
			got, ok := rational.Pow(a, n)
			same(t, a, got, new(big.Rat).SetFrac(num, den).RatString())
			same(t, a, ok, true)
			got, ok = rational.Pow(a, -n)
			same(t, a, got, new(big.Rat).SetFrac(den, num).RatString())
			same(t, a, ok, true)
		}
		for _, n := range []int{api.MaxPower + 1, -api.MaxPower - 1, math.MaxInt, math.MinInt, math.MinInt + 1, 1 << 32, -1 << 32} {
			got, ok := rational.Pow(a, n)
			same(t, a, got, "")
			same(t, a, ok, false)
		}
	}
}

func TestP1_4PowOfZero(t *testing.T) {
	for n, want := range map[int]string{0: "1", 1: "0", 2: "0", api.MaxPower: "0", -1: "", -api.MaxPower: "", api.MaxPower + 1: "", -api.MaxPower - 1: "", math.MinInt: ""} {
		got, ok := rational.Pow("0", n)
		same(t, strconv.Itoa(n), got, want)
		same(t, strconv.Itoa(n), ok, want != "")
	}
}

func TestP1_5FloorAndCeil(t *testing.T) {
	for s, want := range map[string][2]string{
		"0": {"0", "0"}, "3": {"3", "3"}, "-3": {"-3", "-3"}, "7/2": {"3", "4"}, "-7/2": {"-4", "-3"}, "1/2": {"0", "1"}, "-1/2": {"-1", "0"}, "-1/1000": {"-1", "0"},
		"-18446744073709551617/18446744073709551616": {"-2", "-1"},
	} {
		same(t, s, [2]string{rational.Floor(s), rational.Ceil(s)}, want)
	}
	for _, s := range sample() {
		r, _ := rat(s)
		// The division of Euclid rounds down, as the denominator is positive.
		floor := new(big.Int).Div(r.Num(), r.Denom())
		ceil := new(big.Int).Neg(new(big.Int).Div(new(big.Int).Neg(r.Num()), r.Denom()))
		same(t, s, rational.Floor(s), floor.String())
		same(t, s, rational.Ceil(s), ceil.String())
	}
	for _, s := range notNumbers {
		same(t, s, rational.Floor(s), "0")
		same(t, s, rational.Ceil(s), "0")
	}
}

func TestP1_5GCD(t *testing.T) {
	for _, l := range [][3]string{
		{"0", "0", "0"}, {"0", "-4", "4"}, {"-4", "0", "4"}, {"0", "-2/3", "2/3"}, {"x", "5/7", "5/7"}, {"12", "-18", "6"}, {"1/2", "1/3", "1/6"}, {"2/3", "4/9", "2/9"}, {"-6", "-6", "6"}, {"7", "1/2", "1/2"},
	} {
		same(t, l[0]+" and "+l[1], rational.GCD(l[0], l[1]), l[2])
	}
	for _, a := range sample() {
		for _, b := range sample() {
			same(t, a+" and "+b, rational.GCD(a, b), ratGCD(a, b).RatString())
		}
	}
}

// ratGCD brings both numbers to the common denominator that is the product.
func ratGCD(a, b string) *big.Rat {
	r, _ := rat(a)
	q, _ := rat(b)
	left := new(big.Int).Mul(r.Num(), q.Denom())
	right := new(big.Int).Mul(q.Num(), r.Denom())
	common := new(big.Int).GCD(nil, nil, left.Abs(left), right.Abs(right))
	return new(big.Rat).SetFrac(common, new(big.Int).Mul(r.Denom(), q.Denom()))
}

func TestP1_5Root(t *testing.T) {
	for s, want := range map[string]string{"0": "0", "1": "1", "4": "2", "9/4": "3/2", "1/100": "1/10", "144/169": "12/13"} {
		got, ok := rational.Root(s)
		same(t, s, got, want)
		same(t, s, ok, true)
	}
	for _, s := range []string{"2", "3", "8", "-1", "-4", "-9/4", "1/2", "4/3", "3/4", "2/9", "18446744073709551615", "340282366920938463463374607431768211455"} {
		got, ok := rational.Root(s)
		same(t, s, got, "")
		same(t, s, ok, false)
	}
	for _, s := range sample() {
		square := rational.Mul(s, s)
		got, ok := rational.Root(square)
		same(t, s, got, rational.Abs(s))
		same(t, s, ok, true)
		got, ok = rational.Root(rational.Neg(rational.Add(square, "1")))
		same(t, s, got, "")
		same(t, s, ok, false)
	}
	for _, s := range notNumbers {
		got, ok := rational.Root(s)
		same(t, s, got, "0")
		same(t, s, ok, true)
	}
}

func TestP1_5Bits(t *testing.T) {
	for s, want := range map[string]int{"0": 1, "1": 2, "-1": 2, "2": 3, "-3/4": 5, "1/2": 3, "255": 9, "256": 10, "1/255": 9, "1/256": 10, "18446744073709551615": 65, "18446744073709551616": 66} {
		same(t, s, rational.Bits(s), want)
	}
	for _, s := range append(sample(), notNumbers...) {
		r, _ := rat(s)
		same(t, s, rational.Bits(s), r.Num().BitLen()+r.Denom().BitLen())
	}
}

func TestNumbersFormAnOrderedField(t *testing.T) {
	list := smallNumbers()
	for _, a := range list {
		for _, b := range list {
			same(t, "Sub inverts Add", rational.Sub(rational.Add(a, b), b), a)
			same(t, "Add commutes", rational.Add(a, b), rational.Add(b, a))
			same(t, "Mul commutes", rational.Mul(a, b), rational.Mul(b, a))
			same(t, "the order of differences", rational.Compare(a, b), rational.Sign(rational.Sub(a, b)))
			if quotient, ok := rational.Div(rational.Mul(a, b), b); ok {
				same(t, "Div inverts Mul", quotient, a)
			}
			for _, c := range list {
				same(t, "Add is associative", rational.Add(rational.Add(a, b), c), rational.Add(a, rational.Add(b, c)))
				same(t, "Mul is associative", rational.Mul(rational.Mul(a, b), c), rational.Mul(a, rational.Mul(b, c)))
				same(t, "Mul distributes", rational.Mul(a, rational.Add(b, c)), rational.Add(rational.Mul(a, b), rational.Mul(a, c)))
				same(t, "Add keeps the order", rational.Compare(rational.Add(a, c), rational.Add(b, c)), rational.Compare(a, b))
			}
		}
	}
}

func TestNumbersOfManyDigits(t *testing.T) {
	g := generator(4)
	for _, bits := range []uint64{3000, 60000, 200000} {
		a, b := g.integer(bits), g.integer(bits)
		r, q := new(big.Rat).SetFrac(a, big.NewInt(7)), new(big.Rat).SetFrac(b, big.NewInt(14))
		x, y := r.RatString(), q.RatString()
		same(t, "Add", rational.Add(x, y), new(big.Rat).Add(r, q).RatString())
		same(t, "Mul", rational.Mul(x, y), new(big.Rat).Mul(r, q).RatString())
		quotient, _ := rational.Div(x, y)
		same(t, "Div", quotient, new(big.Rat).Quo(r, q).RatString())
		same(t, "Floor", rational.Floor(x), new(big.Int).Div(r.Num(), r.Denom()).String())
		root, _ := rational.Root(rational.Mul(x, x))
		same(t, "Root", root, x)
	}
}

func FuzzParse(f *testing.F) {
	for _, s := range append(numbers, notNumbers...) {
		f.Add(s)
	}
	f.Fuzz(func(t *testing.T, text string) {
		r, valid := rat(text)
		same(t, "Valid", rational.Valid(text), valid)
		same(t, "Neg", rational.Neg(text), new(big.Rat).Neg(r).RatString())
		got, e := rational.Parse(text)
		want, ok := parse(text)
		same(t, text, got, want)
		switch {
		case len(text) > api.MaxText:
			same(t, text, e, api.ErrLimit)
		case !inputForm.MatchString(text):
			same(t, text, e, api.ErrSyntax)
		case !ok:
			same(t, text, e, api.ErrZero)
		default:
			same(t, text, e, api.OK)
		}
	})
}

// parse returns what Parse has to return, and whether that is no error.
func parse(text string) (string, bool) {
	if len(text) > api.MaxText || !inputForm.MatchString(text) {
		return "", false
	}
	before, after, _ := strings.Cut(text, "/")
	whole, decimals, _ := strings.Cut(before, ".")
	num, _ := new(big.Int).SetString(whole+decimals, 10)
	den, _ := new(big.Int).SetString("1"+strings.Repeat("0", len(decimals)), 10)
	if strings.Contains(text, "/") {
		den, _ = new(big.Int).SetString(after, 10)
	}
	if den.Sign() == 0 {
		return "", false
	}
	return new(big.Rat).SetFrac(num, den).RatString(), true
}
