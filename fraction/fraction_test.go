package fraction_test

import (
	"math/big"
	"slices"
	"testing"

	"sosopt/fraction"
	"sosopt/integer"
)

// generator is a source of bits that is the same in every run.
type generator uint64

func (g *generator) next() uint64 {
	*g ^= *g << 13
	*g ^= *g >> 7
	*g ^= *g << 17
	return uint64(*g)
}

func (g *generator) number(bits uint) *big.Rat {
	num := new(big.Int).SetUint64(g.next() >> (g.next() % 64))
	den := new(big.Int).SetUint64(g.next() >> (g.next() % 64))
	num.Lsh(num, bits).Add(num, new(big.Int).SetUint64(g.next()))
	den.Lsh(den, bits/2).Add(den, big.NewInt(1))
	if g.next()%2 == 0 {
		num.Neg(num)
	}
	return new(big.Rat).SetFrac(num, den)
}

func sample() []*big.Rat {
	g := generator(1)
	list := []*big.Rat{
		new(big.Rat), big.NewRat(1, 1), big.NewRat(-1, 1), big.NewRat(7, 2), big.NewRat(-2, 7), big.NewRat(1, 6),
		big.NewRat(-5, 6), big.NewRat(4, 9), big.NewRat(12, 1), big.NewRat(-1<<63, 1), big.NewRat(1, 1<<62),
	}
	for _, bits := range []uint{0, 0, 0, 20, 64, 100} {
		list = append(list, g.number(bits), g.number(bits))
	}
	return list
}

func toInteger(t *testing.T, n *big.Int) integer.Int {
	t.Helper()
	x, ok := integer.FromDigits(new(big.Int).Abs(n).String())
	if !ok {
		t.Fatalf("FromDigits rejects %v", n)
	}
	if n.Sign() < 0 {
		return x.Neg()
	}
	return x
}

// forms returns the fractions with the value x, which differ in how 1 is kept as
// a denominator.
func forms(t *testing.T, x *big.Rat) []fraction.Fraction {
	t.Helper()
	read, ok := fraction.Read(x.RatString())
	if !ok {
		t.Fatalf("Read rejects %s", x.RatString())
	}
	list := []fraction.Fraction{read, fraction.Quotient(toInteger(t, x.Num()), toInteger(t, x.Denom()))}
	if x.Sign() == 0 {
		list = append(list, fraction.Fraction{})
	}
	return list
}

func check(t *testing.T, name string, got fraction.Fraction, want *big.Rat) {
	t.Helper()
	if got.String() != want.RatString() || got.Num().String() != want.Num().String() || got.Den().String() != want.Denom().String() {
		t.Errorf("%s: %v, not %s", name, got, want.RatString())
	}
	if got.Sign() != want.Sign() || got.IsInteger() != want.IsInt() || got.IsOne() != (want.Cmp(big.NewRat(1, 1)) == 0) {
		t.Errorf("%s: sign %d of %v", name, got.Sign(), got)
	}
}

func TestPairs(t *testing.T) {
	for _, x := range sample() {
		for _, y := range sample() {
			for _, a := range forms(t, x) {
				for _, b := range forms(t, y) {
					checkPair(t, a, b, x, y)
				}
			}
		}
	}
}

func checkPair(t *testing.T, a, b fraction.Fraction, x, y *big.Rat) {
	t.Helper()
	check(t, "Add", a.Add(b), new(big.Rat).Add(x, y))
	check(t, "Sub", a.Sub(b), new(big.Rat).Sub(x, y))
	check(t, "Mul", a.Mul(b), new(big.Rat).Mul(x, y))
	if y.Sign() != 0 {
		check(t, "Div", a.Div(b), new(big.Rat).Quo(x, y))
	}
	if a.Compare(b) != x.Cmp(y) {
		t.Errorf("Compare: %d for %v and %v", a.Compare(b), a, b)
	}
	nums := new(big.Int).GCD(nil, nil, new(big.Int).Abs(x.Num()), new(big.Int).Abs(y.Num()))
	dens := new(big.Int).GCD(nil, nil, x.Denom(), y.Denom())
	dens.Div(new(big.Int).Mul(x.Denom(), y.Denom()), dens)
	check(t, "GCD", a.GCD(b), new(big.Rat).SetFrac(nums, dens))
	check(t, "left operand", a, x)
	check(t, "right operand", b, y)
}

func TestSingles(t *testing.T) {
	for _, x := range sample() {
		for _, a := range forms(t, x) {
			check(t, "value", a, x)
			check(t, "Neg", a.Neg(), new(big.Rat).Neg(x))
			check(t, "Abs", a.Abs(), new(big.Rat).Abs(x))
			square := new(big.Rat).Mul(x, x)
			check(t, "Pow", a.Pow(3), new(big.Rat).Mul(square, x))
			check(t, "Pow", a.Pow(0), big.NewRat(1, 1))
			root, ok := a.Mul(a).Root()
			check(t, "Root", root, new(big.Rat).Abs(x))
			if !ok {
				t.Errorf("Root: none of the square of %v", a)
			}
			floor := new(big.Int).Div(x.Num(), x.Denom())
			check(t, "Floor", fraction.FromInteger(a.Floor()), new(big.Rat).SetInt(floor))
			if x.Sign() != 0 {
				check(t, "Inverse", a.Inverse(), new(big.Rat).Inv(x))
			}
		}
	}
	for _, s := range []string{"2", "-4", "1/2", "9/2", "2/9"} {
		a, _ := fraction.Read(s)
		if root, ok := a.Root(); ok {
			t.Errorf("Root of %s: %v", s, root)
		}
	}
}

func TestQuotient(t *testing.T) {
	for num := int64(-12); num <= 12; num++ {
		for den := int64(-12); den <= 12; den++ {
			if den != 0 {
				got := fraction.Quotient(integer.FromInt64(num), integer.FromInt64(den))
				check(t, "Quotient", got, big.NewRat(num, den))
			}
		}
	}
	check(t, "One", fraction.One(), big.NewRat(1, 1))
}

func TestPrimitive(t *testing.T) {
	for _, c := range []struct {
		values   []string
		integers []string
		content  string
	}{
		{nil, nil, "0"},
		{[]string{"0", "0"}, []string{"0", "0"}, "0"},
		{[]string{"0", "-3/4"}, []string{"0", "-1"}, "3/4"},
		{[]string{"1/2", "1/3", "-1"}, []string{"3", "2", "-6"}, "1/6"},
		{[]string{"4", "-6/5"}, []string{"10", "-3"}, "2/5"},
		{[]string{"6", "10", "15"}, []string{"6", "10", "15"}, "1"},
		{[]string{"55340232221128654848/7", "18446744073709551616"}, []string{"3", "7"}, "18446744073709551616/7"},
	} {
		values, _ := fraction.ReadAll(c.values)
		integers, content := fraction.Primitive(values)
		var texts []string
		for _, n := range integers {
			texts = append(texts, n.String())
		}
		if !slices.Equal(texts, c.integers) || content.String() != c.content {
			t.Errorf("Primitive of %v: %v and %v", c.values, integers, content)
		}
	}
}

func TestLists(t *testing.T) {
	list := []string{"0", "-3", "7/2", "18446744073709551616/3"}
	values, ok := fraction.ReadAll(list)
	if !ok || !slices.Equal(fraction.Texts(values), list) {
		t.Errorf("ReadAll: %v, %v", values, ok)
	}
	for _, bad := range []string{"", "x", "2/4", "-0", "1/1", "3/0", "01"} {
		if values, ok := fraction.ReadAll([]string{"1", bad, "2"}); ok || values != nil {
			t.Errorf("ReadAll accepts %q", bad)
		}
	}
	if values, ok := fraction.ReadAll(nil); !ok || len(values) > 0 {
		t.Errorf("ReadAll of nothing: %v, %v", values, ok)
	}
}
