package monomial_test

import (
	"math"
	"math/big"
	"slices"
	"strconv"
	"strings"
	"testing"

	"sosopt/monomial"
)

func same[T comparable](t *testing.T, name string, got, want T) {
	t.Helper()
	if got != want {
		t.Errorf("%s: %v, not %v", name, got, want)
	}
}

// parse reads exponents that are separated by blanks.
func parse(text string) []int {
	var m []int
	for field := range strings.FieldsSeq(text) {
		e, err := strconv.Atoi(field)
		if err != nil {
			panic(text)
		}
		m = append(m, e)
	}
	return m
}

// text shows a slice in messages, and serves to compare slices.
func text(m []int) string {
	var fields []string
	for _, e := range m {
		fields = append(fields, strconv.Itoa(e))
	}
	return strings.Join(fields, " ")
}

// isMonomial computes the degree without a bound.
func isMonomial(m []int) bool {
	degree := new(big.Int)
	for _, e := range m {
		if e < 0 {
			return false
		}
		degree.Add(degree, big.NewInt(int64(e)))
	}
	return len(m) <= 6 && degree.Cmp(big.NewInt(24)) <= 0
}

func sum(m []int) int {
	total := 0
	for _, e := range m {
		total += e
	}
	return total
}

// order compares monomials in the same number of variables: the reversed exponents
// with the opposite sign, after the degree, are in the order of the words of a dictionary.
func order(a, b []int) int {
	return slices.Compare(key(a), key(b))
}

func key(m []int) []int {
	k := []int{sum(m)}
	for _, e := range slices.Backward(m) {
		k = append(k, -e)
	}
	return k
}

// tuples returns the slices of n numbers from low to high, in the order of a
// dictionary.
func tuples(n, low, high int) [][]int {
	list := [][]int{{}}
	for range n {
		var longer [][]int
		for _, m := range list {
			for e := low; e <= high; e++ {
				longer = append(longer, append(slices.Clone(m), e))
			}
		}
		list = longer
	}
	return list
}

// upTo returns the monomials in n variables whose degree is at most d in ascending
// order, from all the tuples.
func upTo(n, d int) [][]int {
	list := slices.DeleteFunc(tuples(n, 0, d), func(m []int) bool { return sum(m) > d })
	slices.SortFunc(list, order)
	return list
}

// monomials are valid; there are several for each number of variables.
func monomials() [][]int {
	list := [][]int{nil, {}}
	for n := 1; n <= 6; n++ {
		list = append(list, tuples(n, 0, 1)...)
		for i := range n {
			for _, e := range []int{2, 3, 11, 12, 13, 23, 24} {
				m := make([]int, n)
				m[i] = e
				list = append(list, m)
			}
		}
	}
	g := generator(7)
	for range 150 {
		m := make([]int, 1+g.below(6))
		left := g.below(25)
		for i := range m {
			m[i] = g.below(left + 1)
			left -= m[i]
		}
		m[g.below(len(m))] += left
		list = append(list, m)
	}
	return append(list, parse("4 4 4 4 4 4"), parse("24 0 0 0 0 0"), parse("1 2 3"), parse("12 12"), parse("23 1"), parse("1 23"), parse("8 8 8"))
}

// invalid are slices that are no valid monomials: too many variables, exponents that
// are negative, and degrees that are too great, some of them beyond an int.
func invalid() [][]int {
	large := math.MaxInt
	return [][]int{
		make([]int, 7), parse("1 0 0 0 0 0 0"), make([]int, 1000), parse("0 0 0 0 0 0 25"),
		{-1}, {-1, 1}, {1, -1}, {25, -1}, {-1, 25}, {0, 0, -1}, {0, 0, 0, 0, 0, -1}, {-24}, {math.MinInt}, {math.MinInt, math.MinInt}, {math.MinInt, 1},
		{math.MinInt, large}, {math.MinInt, large, 1}, {large, math.MinInt}, {1, large, math.MinInt},
		{25}, {24, 1}, {1, 24}, {13, 12}, {0, 25}, {4, 4, 4, 4, 4, 5}, {5, 4, 4, 4, 4, 4}, {25, 0, 0, 0, 0, 0}, {0, 0, 0, 0, 0, 25},
		{large}, {large, 1}, {large, large}, {large, large, 2}, {large, large, 3}, {1, large, large, 1}, {large, 0, 0, 0, 0, 0}, {1 << 32}, {1 << 32, 1 << 32},
		{1 << 62, 1 << 62, 1 << 62, 1 << 62}, {1 << 63 / 3, 1 << 63 / 3, 1 << 63 / 3}, {0, 1 << 62, 1 << 62, 1 << 62, 1 << 62, 3},
	}
}

// pairs calls check with all pairs of slices, valid or not.
func pairs(check func(a, b []int)) {
	all := slices.Concat(monomials(), invalid())
	for _, a := range all {
		for _, b := range all {
			check(a, b)
		}
	}
}

// generator yields the same numbers in each run.
type generator uint64

func (g *generator) next() uint64 {
	if *g == 0 {
		*g = 1
	}
	*g ^= *g << 13
	*g ^= *g >> 7
	*g ^= *g << 17
	return uint64(*g)
}

func (g *generator) below(n int) int {
	return int(g.next() >> 1 % uint64(n))
}

// mark is a number behind the slices, which no function may change.
const mark = -77

// guarded returns a copy of m with marks in its spare capacity.
func guarded(m []int) []int {
	return slices.Concat(m, []int{mark, mark, mark})[:len(m)]
}

func marked(m []int) bool {
	return slices.Equal(m[len(m):len(m)+3], []int{mark, mark, mark})
}

// scribble changes a result and its spare capacity.
func scribble(m []int) {
	m = m[:cap(m)]
	for i := range m {
		m[i] = mark
	}
}

// separate checks that two results share no memory, and that they are no part of the
// arguments.
func separate(t *testing.T, name string, call func() []int, arguments ...[]int) {
	t.Helper()
	first, second := call(), call()
	want := text(second)
	scribble(first)
	same(t, name+" after a change of the first result", text(second), want)
	for _, m := range arguments {
		if !marked(m) || slices.Contains(m, mark) {
			t.Errorf("%s: the argument became %v", name, m[:len(m)+3])
		}
	}
	same(t, name+", called again", text(call()), want)
}

func isZero(m []int, ok bool) bool {
	return len(m) == 0 && !ok
}

// compatible reports whether a and b are valid and have the same number of variables.
func compatible(a, b []int) bool {
	return isMonomial(a) && isMonomial(b) && len(a) == len(b)
}

// mustAll returns the result of All, for arguments that are in range.
func mustAll(t *testing.T, n, d int) [][]int {
	t.Helper()
	list, errno := monomial.All(n, d)
	if errno != 0 {
		t.Fatalf("All of %d, %d: error %d", n, d, errno)
	}
	return list
}
