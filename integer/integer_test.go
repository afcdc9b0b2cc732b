package integer_test

import (
	"math"
	"math/big"
	"strings"
	"testing"

	"sosopt/integer"
)

// generator is a source of bits that is the same in every run.
type generator uint64

func (g *generator) next() uint64 {
	*g ^= *g << 13
	*g ^= *g >> 7
	*g ^= *g << 17
	return uint64(*g)
}

func (g *generator) number(words int) *big.Int {
	n := new(big.Int)
	for range words {
		n.Lsh(n, 64)
		n.Or(n, new(big.Int).SetUint64(g.next()))
	}
	return n
}

// sample contains numbers of the given numbers of words: random bits, and powers
// of 2 and their neighbours, which let carries and borrows run through all words.
func sample(g *generator, sizes ...int) []*big.Int {
	var list []*big.Int
	one := big.NewInt(1)
	for _, words := range sizes {
		power := new(big.Int).Lsh(one, uint(64*words))
		list = append(list, g.number(words), power, new(big.Int).Sub(power, one), new(big.Int).Add(power, one))
	}
	for _, n := range list[:len(list):len(list)] {
		list = append(list, new(big.Int).Neg(n))
	}
	return list
}

func fromBig(t *testing.T, n *big.Int) integer.Int {
	t.Helper()
	x, ok := integer.FromDigits(new(big.Int).Abs(n).String())
	if !ok {
		t.Fatalf("FromDigits rejects %v", n)
	}
	if n.Sign() < 0 {
		return x.Neg()
	}
	return x
}

func check(t *testing.T, name string, got integer.Int, want *big.Int) {
	t.Helper()
	if got.String() != want.String() {
		t.Fatalf("%s: %v, not %v", name, got, want)
	}
	if got.Sign() != want.Sign() || got.BitLen() != want.BitLen() || got.IsOne() != (want.String() == "1") {
		t.Fatalf("%s: sign %d and %d bits of %v", name, got.Sign(), got.BitLen(), want)
	}
}

func checkPair(t *testing.T, a, b *big.Int) {
	t.Helper()
	x, y := fromBig(t, a), fromBig(t, b)
	check(t, "Add", x.Add(y), new(big.Int).Add(a, b))
	check(t, "Sub", x.Sub(y), new(big.Int).Sub(a, b))
	check(t, "Mul", x.Mul(y), new(big.Int).Mul(a, b))
	check(t, "GCD", x.GCD(y), new(big.Int).GCD(nil, nil, new(big.Int).Abs(a), new(big.Int).Abs(b)))
	if x.Compare(y) != a.Cmp(b) {
		t.Fatalf("Compare: %d for %v and %v", x.Compare(y), a, b)
	}
	if b.Sign() == 0 {
		return
	}
	quotient, rest := x.Div(y)
	wantQuotient, wantRest := floorDiv(a, b)
	check(t, "quotient", quotient, wantQuotient)
	check(t, "rest", rest, wantRest)
	check(t, "DivExact", x.Mul(y).DivExact(y), a)
	check(t, "left operand", x, a)
	check(t, "right operand", y, b)
}

func floorDiv(a, b *big.Int) (*big.Int, *big.Int) {
	quotient, rest := new(big.Int).QuoRem(a, b, new(big.Int))
	if rest.Sign()*b.Sign() < 0 {
		quotient.Sub(quotient, big.NewInt(1))
		rest.Add(rest, b)
	}
	return quotient, rest
}

func TestPairsOfShortNumbers(t *testing.T) {
	g := generator(1)
	list := sample(&g, 0, 1, 2, 3, 7)
	for _, n := range []int64{2, 3, 10, math.MaxInt64} {
		list = append(list, big.NewInt(n), big.NewInt(-n))
	}
	for _, a := range list {
		for _, b := range list {
			checkPair(t, a, b)
		}
	}
}

func TestPairsOfLongNumbers(t *testing.T) {
	g := generator(2)
	list := sample(&g, 2, 101, 250, 640)
	for _, a := range list[:len(list)/2] {
		for _, b := range list {
			checkPair(t, a, b)
		}
	}
}

func TestRandomPairs(t *testing.T) {
	g := generator(3)
	for range 2000 {
		a, b := g.number(int(g.next()%12)), g.number(int(g.next()%12))
		checkPair(t, a.Rsh(a, uint(g.next()%64)), b.Rsh(b, uint(g.next()%64)))
	}
}

// The quotient and the divisor are known, and the remainder is at one of its
// ends, so that a digit or a part of the quotient that is guessed from the first
// words has to be corrected.
func TestDivOfKnownQuotients(t *testing.T) {
	g := generator(4)
	sizes := []int{1, 2, 3, 5, 60, 239, 240, 260, 520, 1001}
	for _, b := range sample(&g, sizes...) {
		for _, q := range sample(&g, 1, 2, 245, 500) {
			if b.Sign() <= 0 || q.Sign() <= 0 {
				continue
			}
			exact := new(big.Int).Mul(b, q)
			less := new(big.Int).Sub(exact, big.NewInt(1))
			x, y := fromBig(t, exact), fromBig(t, b)
			quotient, rest := x.Div(y)
			check(t, "quotient", quotient, q)
			check(t, "rest", rest, new(big.Int))
			check(t, "DivExact", x.DivExact(y), q)
			quotient, rest = fromBig(t, less).Div(y)
			wantQuotient, wantRest := floorDiv(less, b)
			check(t, "quotient", quotient, wantQuotient)
			check(t, "rest", rest, wantRest)
		}
	}
}

func TestDivByZero(t *testing.T) {
	for _, n := range []int64{0, 5, -5} {
		quotient, rest := integer.FromInt64(n).Div(integer.Int{})
		check(t, "quotient", quotient, new(big.Int))
		check(t, "rest", rest, big.NewInt(n))
		check(t, "DivExact", integer.FromInt64(n).DivExact(integer.Int{}), new(big.Int))
	}
}

func TestGCDOfMultiples(t *testing.T) {
	g := generator(5)
	for _, words := range []int{1, 2, 3, 10, 50} {
		common := g.number(words)
		for range 50 {
			a, b := g.number(1+int(g.next()%20)), g.number(1+int(g.next()%20))
			checkPair(t, a.Mul(a, common), b.Mul(b, common))
		}
	}
	// Neighbouring Fibonacci numbers need the most steps.
	a, b := big.NewInt(1), big.NewInt(1)
	for range 2000 {
		a, b = b, new(big.Int).Add(a, b)
	}
	checkPair(t, a, b)
}

func TestInt64(t *testing.T) {
	for _, n := range []int64{0, 1, -1, 1 << 62, math.MaxInt64, -math.MaxInt64, math.MinInt64} {
		x := integer.FromInt64(n)
		check(t, "FromInt64", x, big.NewInt(n))
		if m, ok := x.Int64(); m != n || !ok {
			t.Errorf("Int64: %d, %v for %d", m, ok, n)
		}
	}
	for _, digits := range []string{"9223372036854775808", "18446744073709551615", "18446744073709551616"} {
		x, _ := integer.FromDigits(digits)
		if m, ok := x.Int64(); m != 0 || ok {
			t.Errorf("Int64: %d, %v for %v", m, ok, x)
		}
		x = x.Neg().Sub(integer.FromInt64(1))
		if m, ok := x.Int64(); m != 0 || ok {
			t.Errorf("Int64: %d, %v for %v", m, ok, x)
		}
	}
}

func TestZeroValue(t *testing.T) {
	var zero integer.Int
	check(t, "zero", zero, new(big.Int))
	check(t, "Neg", zero.Neg(), new(big.Int))
	check(t, "Abs", zero.Abs(), new(big.Int))
	check(t, "Abs", integer.FromInt64(-7).Abs(), big.NewInt(7))
}

func TestPow(t *testing.T) {
	g := generator(6)
	for _, a := range sample(&g, 0, 1, 2, 5) {
		for _, n := range []uint{0, 1, 2, 3, 10, 31, 100} {
			want := new(big.Int).Exp(a, big.NewInt(int64(n)), nil)
			check(t, "Pow", fromBig(t, a).Pow(n), want)
		}
	}
}

func TestRoot(t *testing.T) {
	g := generator(7)
	for _, a := range sample(&g, 0, 1, 2, 3, 10, 150) {
		square := new(big.Int).Mul(a, a)
		root, ok := fromBig(t, square).Root()
		if !ok {
			t.Fatalf("Root: none for %v", square)
		}
		check(t, "Root", root, new(big.Int).Abs(a))
		for _, n := range []int64{2, -3} {
			other := new(big.Int).Add(square, big.NewInt(n))
			root, ok := fromBig(t, other).Root()
			want := new(big.Int)
			if other.Sign() >= 0 {
				want.Sqrt(other)
			}
			if square := new(big.Int).Mul(want, want); ok != (square.Cmp(other) == 0) {
				t.Fatalf("Root: %v, %v for %v", root, ok, other)
			}
		}
	}
}

func TestFloorRoot(t *testing.T) {
	g := generator(9)
	for _, a := range sample(&g, 0, 1, 2, 3, 10, 150) {
		for _, n := range []int64{-1, 0, 1} {
			other := new(big.Int).Add(new(big.Int).Mul(a, a), big.NewInt(n))
			if other.Sign() >= 0 {
				check(t, "FloorRoot", fromBig(t, other).FloorRoot(), new(big.Int).Sqrt(other))
			}
		}
	}
}

// smallMultiple takes the steps of Euclid's algorithm one by one.
func smallMultiple(x, modulus, bound *big.Int) (*big.Int, *big.Int) {
	a, b := modulus, new(big.Int).Mod(x, modulus)
	factorA, factorB := big.NewInt(0), big.NewInt(1)
	for b.Cmp(bound) > 0 {
		quotient, rest := new(big.Int).QuoRem(a, b, new(big.Int))
		factor := new(big.Int).Mul(quotient, factorB)
		a, b = b, rest
		factorA, factorB = factorB, factor.Sub(factorA, factor)
	}
	return b, factorB
}

func checkSmallMultiple(t *testing.T, x, modulus, bound *big.Int) {
	t.Helper()
	wantRest, wantFactor := smallMultiple(x, modulus, bound)
	rest, factor := fromBig(t, x).SmallMultiple(fromBig(t, modulus), fromBig(t, bound))
	check(t, "rest", rest, wantRest)
	check(t, "factor", factor, wantFactor)
}

func TestSmallMultipleOfShortNumbers(t *testing.T) {
	for modulus := int64(1); modulus <= 40; modulus++ {
		for x := -modulus - 1; x <= modulus+1; x++ {
			for bound := int64(0); bound <= modulus; bound++ {
				checkSmallMultiple(t, big.NewInt(x), big.NewInt(modulus), big.NewInt(bound))
			}
		}
	}
}

func TestSmallMultipleOfLongNumbers(t *testing.T) {
	g := generator(10)
	for range 300 {
		words := 1 + int(g.next()%30)
		modulus := g.number(words)
		modulus.Add(modulus, big.NewInt(1))
		x := g.number(words)
		for _, bound := range []*big.Int{new(big.Int), g.number(1), new(big.Int).Sqrt(modulus), g.number(words / 2), g.number(words), modulus} {
			checkSmallMultiple(t, x, modulus, bound)
			checkSmallMultiple(t, x.Neg(x), modulus, bound)
		}
	}
}

// Every remainder is the bound once, so that no leap may lead beyond it.
func TestSmallMultipleStopsAtEveryRemainder(t *testing.T) {
	g := generator(11)
	for _, words := range []int{1, 2, 3, 8} {
		x, modulus := g.number(words), g.number(words)
		a, b := modulus, new(big.Int).Mod(x, modulus)
		for b.Sign() > 0 {
			checkSmallMultiple(t, x, modulus, b)
			checkSmallMultiple(t, x, modulus, new(big.Int).Sub(b, big.NewInt(1)))
			a, b = b, new(big.Int).Mod(a, b)
		}
	}
}

func TestText(t *testing.T) {
	g := generator(8)
	for _, length := range []int{1, 2, 18, 19, 20, 38, 39, 607, 608, 609, 1216, 1217, 5000, 30000} {
		for _, digits := range []string{
			strings.Repeat("9", length),
			"1" + strings.Repeat("0", length-1),
			strings.Repeat("7", (length+1)/2) + strings.Repeat("0", length/2),
			g.number(length/20 + 1).String(),
		} {
			want, _ := new(big.Int).SetString(digits, 10)
			x, ok := integer.FromDigits(digits)
			if !ok {
				t.Fatalf("FromDigits rejects %s", digits)
			}
			check(t, "FromDigits", x, want)
			check(t, "Neg", x.Neg(), new(big.Int).Neg(want))
			x, ok = integer.FromDigits(strings.Repeat("0", length) + digits)
			if !ok {
				t.Fatalf("FromDigits rejects %s after zeros", digits)
			}
			check(t, "leading zeros", x, want)
		}
	}
	for _, text := range []string{"", "-", "-1", "+1", "1_0", "1.0", " 1", "1 ", "0x1", "a", "\x00", "\xff", "１", strings.Repeat("1", 1000) + "x"} {
		if x, ok := integer.FromDigits(text); ok || x.Sign() != 0 {
			t.Errorf("FromDigits: %v, %v for %q", x, ok, text)
		}
	}
}
