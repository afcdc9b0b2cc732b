package monomial_test

import (
	"math"
	"math/big"
	"slices"
	"testing"

	"sosopt/api"
	"sosopt/monomial"
)

func TestP5_1Valid(t *testing.T) {
	for _, m := range monomials() {
		same(t, "oracle of "+text(m), isMonomial(m), true)
		same(t, "Valid of "+text(m), monomial.Valid(m), true)
	}
	for _, m := range invalid() {
		same(t, "oracle of "+text(m), isMonomial(m), false)
		same(t, "Valid of "+text(m), monomial.Valid(m), false)
	}
	for n := range 5 {
		for _, m := range tuples(n, -1, 9) {
			same(t, "Valid of "+text(m), monomial.Valid(m), isMonomial(m))
		}
	}
}

func TestP5_1Degree(t *testing.T) {
	same(t, "Degree of no exponents", monomial.Degree(nil), 0)
	same(t, "Degree of 1 2 3", monomial.Degree(parse("1 2 3")), 6)
	same(t, "Degree of 0 0 0 0 0 24", monomial.Degree(parse("0 0 0 0 0 24")), 24)
	for _, m := range monomials() {
		same(t, "Degree of "+text(m), monomial.Degree(m), sum(m))
	}
	for _, m := range invalid() {
		same(t, "Degree of "+text(m), monomial.Degree(m), -1)
	}
}

func TestP5_1Compare(t *testing.T) {
	for _, c := range []struct {
		a, b string
		want int
	}{
		{"", "", 0}, {"0", "0", 0}, {"0", "1", -1}, {"24", "23", 1},
		{"0 0", "0 1", -1}, {"0 1", "1 0", -1}, {"1 0", "0 2", -1}, {"0 2", "1 1", -1}, {"1 1", "2 0", -1}, {"1 1", "1 1", 0},
		// The graded lexicographic order has these two the other way round.
		{"1 0 1", "0 2 0", -1}, {"2 0 0 1", "0 0 3 0", -1},
		// The last position decides, not the first one, nor the sum of the differences.
		{"3 0 1", "1 2 1", 1}, {"0 3 0", "2 0 1", 1}, {"9 0 0 0 0 1", "0 0 0 0 9 1", 1},
	} {
		same(t, "Compare of "+c.a+" and "+c.b, monomial.Compare(parse(c.a), parse(c.b)), c.want)
		same(t, "Compare of "+c.b+" and "+c.a, monomial.Compare(parse(c.b), parse(c.a)), -c.want)
	}
	pairs(func(a, b []int) {
		want := 0
		if compatible(a, b) {
			want = order(a, b)
		}
		same(t, "Compare of "+text(a)+" and "+text(b), monomial.Compare(a, b), want)
	})
}

// TestP5_1Order covers the consequences: the order is total, 1 is the least
// monomial, and products keep it.
func TestP5_1Order(t *testing.T) {
	for _, n := range []int{1, 2, 3} {
		list := upTo(n, 4)
		for i, a := range list {
			for j, b := range list {
				want := monomial.Compare(a, b)
				same(t, "Compare of positions", want, min(max(i-j, -1), 1))
				for _, c := range list {
					x, _ := monomial.Mul(a, c)
					y, _ := monomial.Mul(b, c)
					same(t, "Compare of products of "+text(a)+" and "+text(b)+" by "+text(c), monomial.Compare(x, y), want)
				}
			}
		}
	}
}

// exponents applies an operation to each position.
func exponents(a, b []int, operation func(x, y int) int) []int {
	var m []int
	for i, x := range a {
		m = append(m, operation(x, b[i]))
	}
	return m
}

// checkOperation compares with the operation at each position, for all pairs.
func checkOperation(t *testing.T, name string, call func(a, b []int) ([]int, bool), operation func(x, y int) int) {
	t.Helper()
	pairs(func(a, b []int) {
		got, ok := call(a, b)
		what := name + " of " + text(a) + " and " + text(b)
		if !compatible(a, b) || !isMonomial(exponents(a, b, operation)) {
			same(t, what+" has zero values", isZero(got, ok), true)
			return
		}
		same(t, what, text(got), text(exponents(a, b, operation)))
		same(t, what+" is valid", ok, true)
	})
}

// checkPair compares one call with a result, or with false if it is "no".
func checkPair(t *testing.T, name string, call func(a, b []int) ([]int, bool), a, b, want string) {
	t.Helper()
	got, ok := call(parse(a), parse(b))
	what := name + " of " + a + " and " + b
	if want == "no" {
		same(t, what+" has zero values", isZero(got, ok), true)
		return
	}
	same(t, what, text(got), want)
	same(t, what+" is valid", ok, true)
}

func TestP5_2Mul(t *testing.T) {
	for _, c := range [][3]string{
		{"1 2 0", "0 1 3", "1 3 3"}, {"", "", ""}, {"24", "1", "no"}, {"24", "0", "24"}, {"12 0", "0 12", "12 12"}, {"12 0", "0 13", "no"},
		{"4 4 4 4 4 0", "0 0 0 0 0 4", "4 4 4 4 4 4"}, {"4 4 4 4 4 0", "0 0 0 0 0 5", "no"}, {"1", "1 0", "no"}, {"", "0", "no"},
		{"-1", "2", "no"}, {"2", "-1", "no"}, {"25", "0", "no"}, {"0", "25", "no"}, {"0 0 0 0 0 0 0", "0 0 0 0 0 0 0", "no"},
	} {
		checkPair(t, "Mul", monomial.Mul, c[0], c[1], c[2])
	}
	checkOperation(t, "Mul", monomial.Mul, func(x, y int) int { return x + y })
}

func TestP5_2Div(t *testing.T) {
	for _, c := range [][3]string{
		{"1 3 3", "0 1 3", "1 2 0"}, {"", "", ""}, {"1 2 0", "0 1 3", "no"}, {"24", "24", "0"}, {"5 1", "2 2", "no"}, {"1 5", "2 2", "no"},
		{"30", "10", "no"}, {"1", "-1", "no"}, {"-1", "-1", "no"}, {"-1", "-2", "no"}, {"25", "25", "no"}, {"1", "1 0", "no"}, {"1 0", "1", "no"}, {"0", "", "no"},
		{"1 0 0 0 0 0 0", "1 0 0 0 0 0 0", "no"},
	} {
		checkPair(t, "Div", monomial.Div, c[0], c[1], c[2])
	}
	checkOperation(t, "Div", monomial.Div, func(x, y int) int { return x - y })
}

func TestP5_2Lcm(t *testing.T) {
	for _, c := range [][3]string{
		{"1 2 0", "0 1 3", "1 2 3"}, {"", "", ""}, {"20 0", "0 5", "no"}, {"20 0", "0 4", "20 4"}, {"24", "24", "24"}, {"24 0", "0 1", "no"},
		{"25", "1", "no"}, {"-1", "1", "no"}, {"1", "-1", "no"}, {"1", "1 0", "no"}, {"0 0 0 0 0 0 0", "0 0 0 0 0 0 0", "no"},
	} {
		checkPair(t, "Lcm", monomial.Lcm, c[0], c[1], c[2])
	}
	checkOperation(t, "Lcm", monomial.Lcm, func(x, y int) int { return max(x, y) })
}

// TestP5_2Least covers the consequence: both monomials divide their least common
// multiple, and it divides every monomial that both divide.
func TestP5_2Least(t *testing.T) {
	list := upTo(3, 3)
	multiples := upTo(3, 7)
	for _, a := range list {
		for _, b := range list {
			m, ok := monomial.Lcm(a, b)
			if !ok || !monomial.Divides(a, m) || !monomial.Divides(b, m) {
				t.Errorf("Lcm of %v and %v: %v", a, b, m)
			}
			for _, c := range multiples {
				both := monomial.Divides(a, c) && monomial.Divides(b, c)
				same(t, "Divides of "+text(m)+" and "+text(c), monomial.Divides(m, c), both)
			}
		}
	}
}

func TestP5_2Divides(t *testing.T) {
	for _, c := range []struct {
		a, b string
		want bool
	}{
		{"1 0", "1 2", true}, {"2 0", "1 2", false}, {"0 3", "1 2", false}, {"", "", true}, {"24", "24", true}, {"0", "0 0", false}, {"", "0", false},
		{"-1", "0", false}, {"-1", "-1", false}, {"0", "-1", false}, {"1", "25", false}, {"25", "25", false}, {"0 0", "24 1", false},
		{"0 0 0 0 0 0 0", "0 0 0 0 0 0 0", false},
	} {
		same(t, "Divides of "+c.a+" and "+c.b, monomial.Divides(parse(c.a), parse(c.b)), c.want)
	}
	pairs(func(a, b []int) {
		want := compatible(a, b) && isMonomial(exponents(b, a, func(x, y int) int { return x - y }))
		same(t, "Divides of "+text(a)+" and "+text(b), monomial.Divides(a, b), want)
	})
}

// outside are pairs of which at least one is out of its range.
func outside() [][2]int {
	return [][2]int{
		{-1, 0}, {7, 0}, {0, -1}, {0, 25}, {2, 25}, {6, 25}, {7, 24}, {7, 25}, {-1, -1}, {-1, 24}, {7, -1}, {3, -1}, {-2, 4}, {6, -6}, {1, 1 << 32}, {1 << 32, 1},
		{math.MaxInt, math.MaxInt}, {math.MinInt, math.MinInt}, {math.MaxInt, 1}, {1, math.MaxInt}, {math.MinInt, 1}, {1, math.MinInt}, {math.MaxInt, math.MinInt},
		{1 << 62, 1 << 62}, {64, 64}, {24, 6},
	}
}

func TestP5_3Count(t *testing.T) {
	for n := range 7 {
		for d := range 25 {
			got, ok := monomial.Count(n, d)
			same(t, "Count", got, int(new(big.Int).Binomial(int64(n+d), int64(n)).Int64()))
			same(t, "Count has a value", ok, true)
		}
	}
	for n, most := range []int{24, 24, 24, 12, 8, 6, 5} {
		for d := range most + 1 {
			got, _ := monomial.Count(n, d)
			same(t, "Count", got, len(upTo(n, d)))
		}
	}
	for _, c := range outside() {
		got, ok := monomial.Count(c[0], c[1])
		same(t, "Count outside", got, 0)
		same(t, "Count outside has a value", ok, false)
	}
}

func TestP5_3All(t *testing.T) {
	for n, most := range []int{24, 24, 24, 12, 8, 6, 5} {
		for d := range most + 1 {
			got := mustAll(t, n, d)
			if !slices.EqualFunc(got, upTo(n, d), slices.Equal[[]int]) {
				t.Errorf("All of %d, %d: %v", n, d, got)
			}
		}
	}
	for n := range 7 {
		for d := range 25 {
			count := int(new(big.Int).Binomial(int64(n+d), int64(n)).Int64())
			list, errno := monomial.All(n, d)
			if count > 4096 {
				same(t, "error of All beyond the limit", errno, api.ErrLimit)
				same(t, "length of All beyond the limit", len(list), 0)
				continue
			}
			same(t, "error of All", errno, api.OK)
			same(t, "length of All", len(list), count)
			checkAscending(t, list, n, d)
		}
	}
	for _, c := range outside() {
		list, errno := monomial.All(c[0], c[1])
		same(t, "error of All outside", errno, api.ErrRange)
		same(t, "length of All outside", len(list), 0)
	}
}

// checkAscending looks for the properties that, with its length, determine the list.
func checkAscending(t *testing.T, list [][]int, n, d int) {
	t.Helper()
	for i, m := range list {
		if len(m) != n || !isMonomial(m) || sum(m) > d {
			t.Errorf("All of %d, %d: %v", n, d, m)
		}
		if i > 0 && order(list[i-1], m) != -1 {
			t.Errorf("All of %d, %d: %v after %v", n, d, m, list[i-1])
		}
	}
}

func TestP5_4Index(t *testing.T) {
	for _, c := range []struct {
		m    string
		want int
	}{
		{"", 0}, {"0", 0}, {"7", 7}, {"24", 24}, {"1 1", 4}, {"0 0 3", 10}, {"3 0 0", 19}, {"0 0 0 0 0 0", 0}, {"1 0 0 0 0 0", 6}, {"0 0 0 0 0 1", 1},
		{"24 0 0 0 0 0", 593774}, {"0 0 0 0 0 24", 475020},
	} {
		got, ok := monomial.Index(parse(c.m))
		same(t, "Index of "+c.m, got, c.want)
		same(t, "Index of "+c.m+" has a value", ok, true)
	}
	for n, most := range []int{24, 24, 24, 24, 15, 10, 8} {
		for want, m := range mustAll(t, n, most) {
			got, ok := monomial.Index(m)
			same(t, "Index of "+text(m), got, want)
			same(t, "Index of "+text(m)+" has a value", ok, true)
		}
	}
	for _, m := range invalid() {
		got, ok := monomial.Index(m)
		same(t, "Index of "+text(m), got, 0)
		same(t, "Index of "+text(m)+" has a value", ok, false)
	}
}

// TestP5_4IndexOrder covers degrees that All does not reach: the least monomial of a
// degree follows all the smaller ones, and a pair of neighbours differs by one.
func TestP5_4IndexOrder(t *testing.T) {
	for n := 1; n <= 6; n++ {
		for d := 1; d <= 24; d++ {
			least, greatest := make([]int, n), make([]int, n)
			least[n-1], greatest[0] = d, d
			before, _ := monomial.Count(n, d-1)
			end, _ := monomial.Count(n, d)
			got, _ := monomial.Index(least)
			same(t, "Index of "+text(least), got, before)
			got, _ = monomial.Index(greatest)
			same(t, "Index of "+text(greatest), got, end-1)
		}
	}
	list := monomials()
	for _, a := range list {
		next := successor(a)
		if next == nil {
			continue
		}
		i, _ := monomial.Index(a)
		j, _ := monomial.Index(next)
		same(t, "Index of "+text(next)+", after "+text(a), j, i+1)
	}
}

// successor returns the least monomial of the same degree that is greater than m, and
// nil if there is none: the first exponent other than 0 behind the first position gives
// one to the position before it, and the first exponent, which is passed over, goes
// along.
func successor(m []int) []int {
	for i := 1; i < len(m); i++ {
		if m[i] == 0 {
			continue
		}
		next := slices.Clone(m)
		next[i]--
		next[0] = 0
		next[i-1] = m[0] + 1
		return next
	}
	return nil
}

func TestP5_4Parity(t *testing.T) {
	same(t, "Parity of 3 2 1 0", text(monomial.Parity(parse("3 2 1 0"))), "1 0 1 0")
	same(t, "Parity of 24", text(monomial.Parity(parse("24"))), "0")
	same(t, "Parity of no exponents", text(monomial.Parity(nil)), "")
	for _, m := range monomials() {
		var want []int
		for _, e := range m {
			want = append(want, e&1)
		}
		same(t, "Parity of "+text(m), text(monomial.Parity(m)), text(want))
	}
	for _, m := range invalid() {
		same(t, "length of Parity of "+text(m), len(monomial.Parity(m)), 0)
	}
}

func TestArgumentsAndResults(t *testing.T) {
	a, b := guarded(parse("5 3 1")), guarded(parse("2 3 0"))
	for _, c := range []struct {
		name string
		call func() []int
	}{
		{"Mul", func() []int { m, _ := monomial.Mul(a, b); return m }},
		{"Mul by 1", func() []int { m, _ := monomial.Mul(a, make([]int, 3)); return m }},
		{"Div", func() []int { m, _ := monomial.Div(a, b); return m }},
		{"Div by 1", func() []int { m, _ := monomial.Div(a, make([]int, 3)); return m }},
		{"Lcm", func() []int { m, _ := monomial.Lcm(a, b); return m }},
		{"Lcm of a and a", func() []int { m, _ := monomial.Lcm(a, a); return m }},
		{"Parity", func() []int { return monomial.Parity(a) }},
		{"Index", func() []int { i, _ := monomial.Index(a); return []int{i} }},
		{"Compare", func() []int { return []int{monomial.Compare(a, b), monomial.Degree(a)} }},
	} {
		separate(t, c.name, c.call, a, b)
	}
	same(t, "first argument", text(a), "5 3 1")
	same(t, "second argument", text(b), "2 3 0")
}

// TestAllSharesNothing changes each monomial and then the list, with their spare
// capacity, and looks at what is left.
func TestAllSharesNothing(t *testing.T) {
	for n := range 7 {
		list, other := mustAll(t, n, 3), mustAll(t, n, 3)
		for i, m := range list {
			scribble(m)
			for j, left := range list[i+1:] {
				same(t, "All after a change", text(left), text(other[i+1+j]))
			}
		}
		clear(list[:cap(list)])
		checkAscending(t, other, n, 3)
		checkAscending(t, mustAll(t, n, 3), n, 3)
	}
}
