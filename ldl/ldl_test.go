package ldl_test

import (
	"math"
	"slices"
	"strconv"
	"strings"
	"testing"

	"sosopt/api"
	"sosopt/ldl"
	"sosopt/matrix"
)

// notMatrices are matrices that are not valid.
func notMatrices() []api.Matrix {
	ones := slices.Repeat([]string{"1"}, 65*65)
	return []api.Matrix{
		{},
		{Rows: 1, Cols: 1},
		{Rows: 1, Cols: 1, Elems: ones[:2]},
		{Rows: 2, Cols: 2, Elems: ones[:3]},
		{Rows: 0, Cols: 1}, {Rows: 1, Cols: 0},
		{Rows: -1, Cols: -1, Elems: ones[:1]},
		{Rows: -2, Cols: -2, Elems: ones[:4]},
		{Rows: 65, Cols: 65, Elems: ones},
		{Rows: math.MaxInt, Cols: math.MaxInt, Elems: ones[:1]},
		{Rows: 1 << 32, Cols: 1 << 32},
		parse("x"), parse("2/4"), parse("1 2;2 -0"), parse("1 +2;+2 4"), parse("01"), parse("1 x;2 3"), parse("1/0"), parse("1 2;3 x"),
		parse("1 x"), parse("x;1"),
		{Rows: 1, Cols: 1, Elems: []string{""}},
		{Rows: 1, Cols: 1, Elems: []string{"\xff"}},
	}
}

// notSymmetric are matrices that are valid, but not symmetric.
func notSymmetric() []api.Matrix {
	return []api.Matrix{
		parse("1 2"), parse("1;2"), parse("1 2;3 4"), parse("0 0;1 0"), parse("1 1/2;-1/2 1"), parse("1 2 3;2 1 4;3 5 1"), parse("1 2 3;2 1 4"),
		parse("0 0;0 0;0 0"), {Rows: 1, Cols: 64, Elems: slices.Repeat([]string{"0"}, 64)},
	}
}

func TestP4_1Symmetric(t *testing.T) {
	for _, m := range sample() {
		same(t, text(m), ldl.Symmetric(m), true)
	}
	for _, m := range slices.Concat(notMatrices(), notSymmetric()) {
		same(t, strings.Join(m.Elems, " "), ldl.Symmetric(m), false)
	}
	largest := api.Matrix{Rows: 64, Cols: 64, Elems: slices.Repeat([]string{"1/2"}, 64*64)}
	same(t, "largest matrix", ldl.Symmetric(largest), true)
	largest.Elems[64*62+63] = "0"
	same(t, "largest matrix, changed", ldl.Symmetric(largest), false)
}

func TestP4_1Factor(t *testing.T) {
	for _, m := range sample() {
		f, ok, errno := ldl.Factor(m)
		same(t, "error of Factor of "+text(m), errno, api.OK)
		same(t, "Factor of "+text(m), ok, toTable(m).inertia()[2] == 0)
		if ok {
			checkFactors(t, m, f)
		} else if text(f.L) != "" || len(f.D) > 0 {
			t.Errorf("Factor of %s: %v, which is no zero value", text(m), f)
		}
	}
}

// checkFactors looks for the properties that determine the factorisation.
func checkFactors(t *testing.T, m api.Matrix, f api.LDL) {
	t.Helper()
	if !matrix.Valid(f.L) || f.L.Rows != m.Rows || f.L.Cols != m.Rows || len(f.D) != m.Rows {
		t.Errorf("Factor of %s: %v", text(m), f)
		return
	}
	l := toTable(f.L)
	for i, row := range l {
		for k, x := range row {
			isZero := k > i || k < i && f.D[k] == "0"
			if isZero && x.Sign() != 0 || k == i && x.RatString() != "1" {
				t.Errorf("Factor of %s: L is %s", text(m), text(f.L))
			}
		}
		if toRat(f.D[i]).Sign() < 0 {
			t.Errorf("Factor of %s: D is %v", text(m), f.D)
		}
	}
	product := l.times(diagonal(f.D)).times(l.transpose())
	same(t, "product of the factors", text(product.matrix()), text(m))
}

func TestP4_1FactorExamples(t *testing.T) {
	for _, c := range [][3]string{
		{"4 2;2 1", "1 0;1/2 1", "4 0"}, {"0", "1", "0"}, {"5/3", "1", "5/3"}, {"0 0;0 3", "1 0;0 1", "0 3"},
		{"1 1 1;1 1 1;1 1 1", "1 0 0;1 1 0;1 0 1", "1 0 0"}, {"2 -1 0;-1 2 -1;0 -1 2", "1 0 0;-1/2 1 0;0 -2/3 1", "2 3/2 4/3"},
		{"1 0 1;0 0 0;1 0 2", "1 0 0;0 1 0;1 0 1", "1 0 1"}, {"1/2 1/3;1/3 1/4", "1 0;2/3 1", "1/2 1/36"},
		{"4 2 6;2 1 3;6 3 10", "1 0 0;1/2 1 0;3/2 0 1", "4 0 1"},
	} {
		f, ok, errno := ldl.Factor(parse(c[0]))
		sameMatrix(t, "L of "+c[0], f.L, errno, parse(c[1]), api.OK)
		same(t, "D of "+c[0], strings.Join(f.D, " "), c[2])
		same(t, c[0], ok, true)
	}
}

// The elements of the factors of large matrices are quotients of determinants.
func TestP4_1FactorOfLargeMatrices(t *testing.T) {
	g := generator(2)
	for _, n := range []int{33, 64} {
		l := g.unitLower(n, 1, 2)
		d := g.numbers(n, 3, 3)
		for i := range d {
			d[i] = strings.TrimPrefix(d[i], "-")
		}
		m := l.times(diagonal(d)).times(l.transpose()).matrix()
		f, ok, errno := ldl.Factor(m)
		same(t, "Factor", ok, true)
		same(t, "error of Factor", errno, api.OK)
		checkFactors(t, m, f)
		same(t, "Check", ldl.Check(m, f), true)
		m.Elems[n*n-1] = "-1/1000"
		_, ok, errno = ldl.Factor(m)
		same(t, "Factor", ok, false)
		same(t, "error of Factor", errno, api.OK)
		checkWitness(t, m)
	}
}

func TestP4_2Expand(t *testing.T) {
	g := generator(3)
	for range 60 {
		n := g.below(6) + 1
		l, d := g.unitLower(n, 1+g.below(90), 9), g.numbers(n, 2, 7)
		want := l.times(diagonal(d)).times(l.transpose())
		got, errno := ldl.Expand(api.LDL{L: l.matrix(), D: d})
		sameMatrix(t, "Expand", got, errno, want.matrix(), api.OK)
	}
	for _, c := range [][3]string{
		{"1 0;1/2 1", "4 0", "4 2;2 1"}, {"1 0;2 1", "-1 1/2", "-1 -2;-2 -7/2"}, {"1", "0", "0"}, {"1 0;7 1", "0 3", "0 0;0 3"},
		{"1 0 0;1 1 0;1 1 1", "1 2 3", "1 1 1;1 3 3;1 3 6"},
	} {
		got, errno := ldl.Expand(api.LDL{L: parse(c[0]), D: strings.Fields(c[1])})
		sameMatrix(t, "Expand", got, errno, parse(c[2]), api.OK)
	}
}

func TestP4_2ExpandErrors(t *testing.T) {
	for _, c := range []struct {
		l    string
		d    []string
		want api.Errno
	}{
		{"1 0;2 1", []string{"1", "x"}, api.ErrInvalid},
		{"1 0;2 1", []string{"1", ""}, api.ErrInvalid},
		{"1 0;2 1", []string{"x", "1", "1"}, api.ErrInvalid},
		{"2 0;2 1", []string{"-0", "1"}, api.ErrInvalid},
		{"1 1", []string{"1/1"}, api.ErrInvalid},
		{"1 0;x 1", []string{"1", "1"}, api.ErrInvalid},
		{"1 0;x 2", []string{"1"}, api.ErrInvalid},
		{"1 00;2 1", []string{"1", "1"}, api.ErrInvalid},
		{"1 0;2 1", []string{"1"}, api.ErrShape},
		{"1 0;2 1", []string{"1", "1", "1"}, api.ErrShape},
		{"1 0;2 1", nil, api.ErrShape},
		{"1 0", []string{"1"}, api.ErrShape},
		{"1 0", []string{"1", "1"}, api.ErrShape},
		{"1;0", []string{"1"}, api.ErrShape},
		{"1;0", []string{"1", "1"}, api.ErrShape},
		{"1 1;0 1", []string{"1", "1"}, api.ErrShape},
		{"1 0 0;0 1 1/2;0 0 1", []string{"1", "1", "0"}, api.ErrShape},
		{"1 0 5;0 1 0;0 0 1", []string{"0", "0", "0"}, api.ErrShape},
		{"2 0;0 1", []string{"1", "1"}, api.ErrShape},
		{"1 0;0 0", []string{"1", "0"}, api.ErrShape},
		{"1 0;0 -1", []string{"1", "1"}, api.ErrShape},
	} {
		f := api.LDL{L: parse(c.l), D: c.d}
		got, errno := ldl.Expand(f)
		sameMatrix(t, "Expand of "+c.l, got, errno, api.Matrix{}, c.want)
		same(t, "Check", ldl.Check(parse("1 0;0 1"), f), false)
	}
	for _, bad := range notMatrices() {
		got, errno := ldl.Expand(api.LDL{L: bad, D: []string{"1"}})
		sameMatrix(t, "Expand", got, errno, api.Matrix{}, api.ErrInvalid)
	}
}

func TestP4_2Check(t *testing.T) {
	for _, c := range []struct {
		m, l, d string
		want    bool
	}{
		{"4 2;2 1", "1 0;1/2 1", "4 0", true},
		{"1 2;2 4", "1 0;2 1", "1 0", true},
		{"0 0;0 3", "1 0;7 1", "0 3", true}, // the column counts for nothing
		{"1 2;2 5", "1 0;2 1", "1 0", false},
		{"1 3;3 4", "1 0;2 1", "1 0", false},
		{"1 2;3 4", "1 0;2 1", "1 0", false},
		{"-1 -2;-2 -7/2", "1 0;2 1", "-1 1/2", false},
		{"0 0;0 -3", "1 0;0 1", "0 -3", false},
		{"1", "1 0;2 1", "1 0", false},
		{"1 2 2 4", "1 0;2 1", "1 0", false},
		{"1;2;2;4", "1 0;2 1", "1 0", false},
		{"1 2;2 4/1", "1 0;2 1", "1 0", false},
		{"1 2;2 4", "1 0;2 1", "1 -0", false},
		{"1 2;2 4", "1 0;2 1", "1 x", false},
	} {
		got := ldl.Check(parse(c.m), api.LDL{L: parse(c.l), D: strings.Fields(c.d)})
		same(t, "Check of "+c.m, got, c.want)
	}
	for _, shape := range [][2]int{{2, 3}, {3, 2}, {2, -2}, {-2, 2}, {0, 2}, {2, 0}, {1, 4}, {4, 1}} {
		m := api.Matrix{Rows: shape[0], Cols: shape[1], Elems: []string{"1", "2", "2", "4"}}
		same(t, "Check", ldl.Check(m, api.LDL{L: parse("1 0;2 1"), D: []string{"1", "0"}}), false)
	}
	for _, bad := range notMatrices() {
		same(t, "Check", ldl.Check(bad, api.LDL{L: parse("1"), D: []string{"1"}}), false)
		same(t, "Check", ldl.Check(bad, api.LDL{L: bad, D: bad.Elems}), false)
	}
	same(t, "Check", ldl.Check(api.Matrix{}, api.LDL{}), false)
}

// A factorisation is accepted, and none of its changes that matter.
func TestP4_2CheckChanges(t *testing.T) {
	for _, m := range sample() {
		f, ok, _ := ldl.Factor(m)
		if !ok {
			continue
		}
		same(t, "Check of "+text(m), ldl.Check(m, f), true)
		for i := range m.Rows {
			changed := api.LDL{L: f.L, D: slices.Clone(f.D)}
			changed.D[i] = "12345/67"
			same(t, "Check of another D", ldl.Check(m, changed), false)
			if i > 0 {
				changed = api.LDL{L: f.L, D: f.D}
				changed.L.Elems = slices.Clone(f.L.Elems)
				changed.L.Elems[i*m.Rows] = "1234/5"
				same(t, "Check of another L", ldl.Check(m, changed), f.D[0] == "0")
			}
		}
	}
}

func TestP4_3Witness(t *testing.T) {
	for _, m := range sample() {
		if toTable(m).inertia()[2] > 0 {
			checkWitness(t, m)
			continue
		}
		v, ok, errno := ldl.Witness(m)
		same(t, "Witness of "+text(m), ok, false)
		same(t, "elements of v", len(v), 0)
		same(t, "error of Witness", errno, api.OK)
	}
	g := generator(4)
	for _, n := range []int{20, 64} {
		checkWitness(t, g.symmetric(n, 5, 3).matrix())
		checkWitness(t, g.sparse(n, false).matrix())
		checkWitness(t, g.sparse(n, true).matrix())
		checkWitness(t, g.square(n, n/2, 2, 1).minus(g.square(n, 1, 1, 20)).matrix())
	}
}

func checkWitness(t *testing.T, m api.Matrix) {
	t.Helper()
	v, ok, errno := ldl.Witness(m)
	if !ok || errno != api.OK || len(v) != m.Rows || toTable(m).value(v).Sign() >= 0 {
		t.Errorf("Witness of %s: %v, %v and %d", text(m), v, ok, errno)
		return
	}
	value, errno := ldl.Value(m, v)
	same(t, "error of Value", errno, api.OK)
	same(t, "Value of the witness", value, toTable(m).value(v).RatString())
}

func TestP4_3WitnessExample(t *testing.T) {
	v, ok, errno := ldl.Witness(parse("0 1;1 0"))
	same(t, "Witness", strings.Join(v, " "), "1 -1")
	same(t, "Witness", ok, true)
	same(t, "error of Witness", errno, api.OK)
}

func TestP4_4Inertia(t *testing.T) {
	for _, m := range sample() {
		sameInertia(t, m, toTable(m).inertia())
	}
	for s, want := range map[string][3]int{
		"0 1;1 0": {1, 0, 1}, "0": {0, 1, 0}, "4 2;2 1": {1, 1, 0}, "1 2;2 1": {1, 0, 1}, "-1 0 0;0 0 0;0 0 2": {1, 1, 1},
		"0 0 1;0 1 0;1 0 0": {2, 0, 1}, "0 1 1;1 0 1;1 1 0": {1, 0, 2}, "0 0 0;0 0 2;0 2 0": {1, 1, 1}, "-7/2": {0, 0, 1},
		"0 1 0 0;1 0 0 0;0 0 0 -1;0 0 -1 0": {2, 0, 2}, "0 1/2 1/3;1/2 0 1/5;1/3 1/5 0": {1, 0, 2},
	} {
		sameInertia(t, parse(s), want)
	}
}

func sameInertia(t *testing.T, m api.Matrix, want [3]int) {
	t.Helper()
	positive, zero, negative, errno := ldl.Inertia(m)
	if errno != api.OK || [3]int{positive, zero, negative} != want {
		t.Errorf("Inertia of %s: %d, %d, %d and %d, not %v", text(m), positive, zero, negative, errno, want)
	}
}

// Congruent matrices have the same inertia.
func TestP4_4InertiaOfCongruentMatrices(t *testing.T) {
	g := generator(5)
	for _, n := range []int{1, 2, 3, 5, 9, 17, 30, 64} {
		for range 3 {
			d := g.numbers(n, 1, 3)
			var want [3]int
			for _, s := range d {
				want[1-toRat(s).Sign()]++
			}
			sameInertia(t, g.congruent(d, 1, 2).matrix(), want)
		}
	}
}

// A matrix of blocks 0, x; x', 0 has as many positive as negative eigenvalues as x
// has rows, if x is invertible.
func TestP4_4InertiaWithoutDiagonal(t *testing.T) {
	g := generator(6)
	for _, n := range []int{1, 2, 5, 32} {
		x := g.unitLower(n, 3, 4)
		a := newTable(2*n, 2*n)
		for i := range n {
			for j := range n {
				a[i][n+j].Set(x[i][j])
				a[n+j][i].Set(x[i][j])
			}
		}
		sameInertia(t, a.matrix(), [3]int{n, 0, n})
	}
}

func TestP4_4Value(t *testing.T) {
	g := generator(7)
	for _, m := range sample() {
		v := g.numbers(m.Rows, 1+g.below(70), 5)
		got, errno := ldl.Value(m, v)
		same(t, "Value of "+text(m), got, toTable(m).value(v).RatString())
		same(t, "error of Value", errno, api.OK)
	}
	got, errno := ldl.Value(parse("1 2;2 3"), []string{"1/2", "-1"})
	same(t, "Value", got, "5/4")
	same(t, "error of Value", errno, api.OK)
}

func TestP4_4ValueErrors(t *testing.T) {
	for _, c := range []struct {
		m    string
		v    []string
		want api.Errno
	}{
		{"1 2;2 1", []string{"1", "x"}, api.ErrInvalid},
		{"1 2;2 1", []string{"1", "1", "2/4"}, api.ErrInvalid},
		{"1 2;3 4", []string{""}, api.ErrInvalid},
		{"1 2", []string{"1", "-0"}, api.ErrInvalid},
		{"x", nil, api.ErrInvalid},
		{"1 2;2 1", []string{"1"}, api.ErrShape},
		{"1 2;2 1", []string{"1", "2", "3"}, api.ErrShape},
		{"1", nil, api.ErrShape},
		{"1 2;3 4", []string{"1", "2"}, api.ErrShape},
		{"1 2", []string{"1"}, api.ErrShape},
		{"1 2", []string{"1", "2"}, api.ErrShape},
		{"1;2", []string{"1"}, api.ErrShape},
	} {
		got, errno := ldl.Value(parse(c.m), c.v)
		same(t, "error of Value of "+c.m, errno, c.want)
		same(t, "Value of "+c.m, got, "")
	}
}

func TestP4_5Schur(t *testing.T) {
	for _, m := range sample() {
		for k := 1; k < m.Rows; k++ {
			checkSchur(t, m, k)
		}
	}
	g := generator(8)
	for _, k := range []int{1, 20, 39} {
		checkSchur(t, g.symmetric(40, 3, 1).matrix(), k)
		checkSchur(t, g.sparse(40, true).matrix(), k)
	}
}

func checkSchur(t *testing.T, m api.Matrix, k int) {
	t.Helper()
	a, n := toTable(m), m.Rows
	b := a.part(0, k, k, n)
	got, errno := ldl.Schur(m, k)
	quotient, ok := a.part(0, k, 0, k).quotient(b)
	if !ok {
		sameMatrix(t, "Schur of "+text(m), got, errno, api.Matrix{}, api.ErrSingular)
		return
	}
	want := a.part(k, n, k, n).minus(b.transpose().times(quotient))
	sameMatrix(t, "Schur of "+text(m), got, errno, want.matrix(), api.OK)
	sum := func(x, y [3]int) [3]int { return [3]int{x[0] + y[0], x[1] + y[1], x[2] + y[2]} }
	if n < 15 {
		same(t, "sum of inertias", sum(a.part(0, k, 0, k).inertia(), toTable(got).inertia()), a.inertia())
	}
}

func TestP4_5SchurExamples(t *testing.T) {
	for _, c := range []struct {
		m    string
		k    int
		want string
		code api.Errno
	}{
		{"4 2;2 1", 1, "0", api.OK},
		{"2 -1 0;-1 2 -1;0 -1 2", 1, "3/2 -1;-1 2", api.OK},
		{"2 -1 0;-1 2 -1;0 -1 2", 2, "4/3", api.OK},
		{"0 1 1;1 0 1;1 1 0", 2, "-2", api.OK},
		{"0 1/2 1/3;1/2 0 1/5;1/3 1/5 0", 2, "-4/15", api.OK},
		{"0 1 0 1;1 0 0 0;0 0 0 0;1 0 0 0", 2, "0 0;0 0", api.OK},
		{"0 1;1 0", 1, "", api.ErrSingular},
		{"1 1 0;1 1 1;0 1 5", 2, "", api.ErrSingular},
		{"0 0 1;0 1 0;1 0 0", 2, "", api.ErrSingular},
		{"1 2;2 1", 0, "", api.ErrRange},
		{"1 2;2 1", -1, "", api.ErrRange},
		{"0 1;1 0", 2, "", api.ErrRange},
		{"0 1;1 0", 3, "", api.ErrRange},
		{"0 1;1 0", math.MaxInt, "", api.ErrRange},
		{"0 1;1 0", math.MinInt, "", api.ErrRange},
		{"1", 1, "", api.ErrRange},
		{"1", 0, "", api.ErrRange},
		{"1 2;3 1", 0, "", api.ErrShape},
		{"1 2", 1, "", api.ErrShape},
		{"x", 0, "", api.ErrInvalid},
	} {
		got, errno := ldl.Schur(parse(c.m), c.k)
		want := api.Matrix{}
		if c.want != "" {
			want = parse(c.want)
		}
		sameMatrix(t, "Schur of "+c.m, got, errno, want, c.code)
	}
}

func TestP4_Errors(t *testing.T) {
	for _, m := range notMatrices() {
		checkErrors(t, m, api.ErrInvalid)
	}
	for _, m := range notSymmetric() {
		checkErrors(t, m, api.ErrShape)
	}
}

func checkErrors(t *testing.T, m api.Matrix, want api.Errno) {
	t.Helper()
	f, ok, errno := ldl.Factor(m)
	same(t, "error of Factor", errno, want)
	sameMatrix(t, "L", f.L, errno, api.Matrix{}, want)
	same(t, "elements of D", len(f.D), 0)
	same(t, "Factor", ok, false)
	v, ok, errno := ldl.Witness(m)
	same(t, "error of Witness", errno, want)
	same(t, "elements of the witness", len(v), 0)
	same(t, "Witness", ok, false)
	positive, zero, negative, errno := ldl.Inertia(m)
	same(t, "error of Inertia", errno, want)
	same(t, "Inertia", [3]int{positive, zero, negative}, [3]int{})
	value, errno := ldl.Value(m, []string{"1", "1"})
	same(t, "error of Value", errno, want)
	same(t, "Value", value, "")
	complement, errno := ldl.Schur(m, 1)
	sameMatrix(t, "Schur", complement, errno, api.Matrix{}, want)
}

// guard returns a copy of a list whose spare capacity is filled with a mark.
func guard(list []string) []string {
	return append(slices.Clone(list), "mark", "mark")[:len(list)]
}

func TestP4_ArgumentsStay(t *testing.T) {
	for _, in := range []string{"4 2;2 1", "0 1;1 0", "1 2;2 1", "1/2 1/3;1/3 5", "0 0;0 0", "-1 2;2 1"} {
		m := parse(in)
		m.Elems = guard(m.Elems)
		f := api.LDL{L: parse("1 0;2/3 1"), D: guard([]string{"1/2", "3"})}
		f.L.Elems = guard(f.L.Elems)
		v := guard([]string{"1/2", "-3"})
		results := callAll(m, f, v)
		for i, list := range results {
			fill(list, strconv.Itoa(i))
		}
		for i, list := range results {
			same(t, "results that share memory", slices.ContainsFunc(list, func(s string) bool { return s != strconv.Itoa(i) }), false)
		}
		same(t, "matrix", strings.Join(m.Elems[:6], " "), strings.Join(parse(in).Elems, " ")+" mark mark")
		same(t, "L", strings.Join(f.L.Elems[:6], " "), "1 0 2/3 1 mark mark")
		same(t, "D", strings.Join(f.D[:4], " "), "1/2 3 mark mark")
		same(t, "vector", strings.Join(v[:4], " "), "1/2 -3 mark mark")
	}
}

// fill overwrites a list and its spare capacity.
func fill(list []string, mark string) {
	for i := range list[:cap(list)] {
		list[:cap(list)][i] = mark
	}
}

// callAll calls all functions and returns the slices of their results.
func callAll(m api.Matrix, f api.LDL, v []string) [][]string {
	ldl.Symmetric(m)
	ldl.Check(m, f)
	ldl.Inertia(m)
	ldl.Value(m, v)
	factors, _, _ := ldl.Factor(m)
	product, _ := ldl.Expand(f)
	witness, _, _ := ldl.Witness(m)
	complement, _ := ldl.Schur(m, 1)
	return [][]string{factors.L.Elems, factors.D, product.Elems, witness, complement.Elems}
}
