package matrix_test

import (
	"math"
	"math/big"
	"slices"
	"strings"
	"testing"

	"sosopt/api"
	"sosopt/matrix"
	"sosopt/modular"
)

// notMatrices are matrices that are not valid.
func notMatrices() []api.Matrix {
	return []api.Matrix{
		{},
		{Rows: 1, Cols: 1},
		{Rows: 1, Cols: 1, Elems: []string{"1", "2"}},
		{Rows: 2, Cols: 2, Elems: []string{"1", "2", "3"}},
		{Rows: 0, Cols: 1}, {Rows: 1, Cols: 0},
		{Rows: -1, Cols: -1, Elems: []string{"1"}},
		{Rows: -2, Cols: -2, Elems: []string{"1", "2", "3", "4"}},
		{Rows: 65, Cols: 1, Elems: ones(65)}, {Rows: 1, Cols: 65, Elems: ones(65)},
		{Rows: 65, Cols: 65, Elems: ones(65 * 65)},
		{Rows: math.MaxInt, Cols: math.MaxInt, Elems: []string{"1"}},
		{Rows: math.MinInt, Cols: 2}, {Rows: 1 << 32, Cols: 1 << 32}, {Rows: 1 << 63 / 2, Cols: 4},
		parse("x"), parse("2/4"), parse("1 2;3 -0"), parse("1 2;+3 4"), parse("01"), parse("1 1.5"), parse("1/0"),
		{Rows: 1, Cols: 2, Elems: []string{"1", ""}},
		{Rows: 2, Cols: 1, Elems: []string{"\xff", "1"}},
	}
}

func ones(n int) []string {
	return slices.Repeat([]string{"1"}, n)
}

func TestP3_1Valid(t *testing.T) {
	for _, m := range append(sample(), parse("1 2;3 1/2"), api.Matrix{Rows: 64, Cols: 64, Elems: ones(64 * 64)}) {
		same(t, text(m), matrix.Valid(m), true)
	}
	for _, m := range notMatrices() {
		if matrix.Valid(m) {
			t.Errorf("%d rows, %d columns, %q", m.Rows, m.Cols, m.Elems)
		}
	}
}

func TestP3_1New(t *testing.T) {
	for _, m := range sample() {
		rows := slices.Collect(slices.Chunk(m.Elems, m.Cols))
		got, errno := matrix.New(rows)
		sameMatrix(t, "New", got, errno, m, api.OK)
	}
	for _, c := range []struct {
		rows [][]string
		want api.Errno
	}{
		{nil, api.ErrShape},
		{[][]string{}, api.ErrShape},
		{[][]string{{}}, api.ErrShape},
		{[][]string{{}, {"1"}}, api.ErrShape},
		{[][]string{{"1"}, {}}, api.ErrShape},
		{[][]string{{"1", "2"}, {"1"}}, api.ErrShape},
		{[][]string{{"x"}, {"1", "2"}}, api.ErrShape},
		{make([][]string, 65), api.ErrShape},
		{append(slices.Repeat([][]string{{"1"}}, 65), []string{"1", "2"}), api.ErrShape},
		{slices.Repeat([][]string{{"x"}}, 65), api.ErrLimit},
		{[][]string{make([]string, 65)}, api.ErrLimit},
		{slices.Repeat([][]string{ones(65)}, 65), api.ErrLimit},
		{[][]string{make([]string, 64)}, api.ErrInvalid},
		{[][]string{{"1", "2"}, {"3", "4/2"}}, api.ErrInvalid},
		{[][]string{{"01"}}, api.ErrInvalid},
		{slices.Repeat([][]string{ones(64)}, 64), api.OK},
	} {
		got, errno := matrix.New(c.rows)
		same(t, "error of New", errno, c.want)
		same(t, "New returns a matrix", text(got) != "", c.want == api.OK)
	}
}

func TestP3_1Identity(t *testing.T) {
	for n := 1; n <= api.MaxDim; n++ {
		want := newTable(n, n)
		for i := range want {
			want[i][i].SetInt64(1)
		}
		got, errno := matrix.Identity(n)
		sameMatrix(t, "Identity", got, errno, want.matrix(), api.OK)
	}
	for _, n := range []int{0, -1, -64, 65, 1 << 32, math.MaxInt, math.MinInt} {
		got, errno := matrix.Identity(n)
		sameMatrix(t, "Identity", got, errno, api.Matrix{}, api.ErrRange)
	}
}

func TestP3_1At(t *testing.T) {
	m := parse("1 2 3;4 5 -1/6")
	for i := range m.Rows {
		for j := range m.Cols {
			same(t, "At", matrix.At(m, i, j), m.Elems[3*i+j])
		}
	}
	for _, place := range [][2]int{{2, 0}, {0, 3}, {1, 3}, {-1, 0}, {0, -1}, {1, -3}, {-1, 3}, {math.MaxInt, 0}, {0, math.MinInt}, {math.MinInt, math.MaxInt}} {
		same(t, "At", matrix.At(m, place[0], place[1]), "0")
	}
	for _, m := range notMatrices() {
		same(t, "At", matrix.At(m, 0, 0), "0")
	}
	same(t, "At", matrix.At(parse("1 x"), 0, 0), "0")
}

func TestP3_2Transpose(t *testing.T) {
	for _, m := range sample() {
		got, errno := matrix.Transpose(m)
		sameMatrix(t, "Transpose of "+text(m), got, errno, toTable(m).transpose().matrix(), api.OK)
	}
}

func TestP3_2AddSub(t *testing.T) {
	g := generator(2)
	for range 100 {
		rows, cols := g.below(5)+1, g.below(5)+1
		a, b := g.matrix(rows, cols, 1+g.below(100), 20), g.matrix(rows, cols, 1+g.below(100), 20)
		sum, difference := toTable(a), toTable(a)
		for i, row := range toTable(b) {
			for j, x := range row {
				sum[i][j].Add(sum[i][j], x)
				difference[i][j].Sub(difference[i][j], x)
			}
		}
		got, errno := matrix.Add(a, b)
		sameMatrix(t, "Add", got, errno, sum.matrix(), api.OK)
		got, errno = matrix.Sub(a, b)
		sameMatrix(t, "Sub", got, errno, difference.matrix(), api.OK)
	}
	for _, pair := range [][2]string{{"1 2", "1;2"}, {"1", "1 2"}, {"1", "1;2"}, {"1 2;3 4", "1 2"}, {"1 2 3;4 5 6", "1 2;3 4;5 6"}} {
		got, errno := matrix.Add(parse(pair[0]), parse(pair[1]))
		sameMatrix(t, "Add", got, errno, api.Matrix{}, api.ErrShape)
		got, errno = matrix.Sub(parse(pair[1]), parse(pair[0]))
		sameMatrix(t, "Sub", got, errno, api.Matrix{}, api.ErrShape)
	}
}

func TestP3_2Scale(t *testing.T) {
	for i, m := range sample() {
		factor := []string{"0", "1", "-1", "-2/3", "18446744073709551617/5"}[i%5]
		want := toTable(m)
		c := toTable(parse(factor))[0][0]
		for _, row := range want {
			for _, x := range row {
				x.Mul(x, c)
			}
		}
		got, errno := matrix.Scale(factor, m)
		sameMatrix(t, "Scale", got, errno, want.matrix(), api.OK)
	}
	for _, factor := range []string{"", "x", "2/4", "-0", "1.5", "+1"} {
		got, errno := matrix.Scale(factor, parse("1 2"))
		sameMatrix(t, "Scale", got, errno, api.Matrix{}, api.ErrInvalid)
	}
}

func TestP3_2Mul(t *testing.T) {
	g := generator(3)
	for range 100 {
		rows, inner, cols := g.below(5)+1, g.below(5)+1, g.below(5)+1
		a, b := g.matrix(rows, inner, 1+g.below(100), 20), g.sparse(inner, cols)
		if g.below(2) == 0 {
			b = g.matrix(inner, cols, 1+g.below(100), 1000)
		}
		got, errno := matrix.Mul(a, b)
		sameMatrix(t, "Mul", got, errno, toTable(a).times(toTable(b)).matrix(), api.OK)
		if cols != rows {
			got, errno = matrix.Mul(b, a)
			sameMatrix(t, "Mul", got, errno, api.Matrix{}, api.ErrShape)
		}
	}
}

func TestP3_2Apply(t *testing.T) {
	g := generator(4)
	for _, m := range sample() {
		x := g.numbers(m.Cols, 40, 9)
		got, errno := matrix.Apply(m, x)
		sameVector(t, "Apply", got, errno, toTable(m).times(toTable(toColumn(x))).matrix().Elems, api.OK)
		for _, wrong := range [][]string{nil, x[1:], append(slices.Clone(x), "0")} {
			got, errno := matrix.Apply(m, wrong)
			sameVector(t, "Apply", got, errno, nil, api.ErrShape)
		}
	}
	for _, wrong := range [][]string{{"x"}, {"1", "2", "-0"}, {"1", "4/2"}} {
		got, errno := matrix.Apply(parse("1 2"), wrong)
		sameVector(t, "Apply", got, errno, nil, api.ErrInvalid)
	}
}

// The elements of one row have different denominators in different columns, and
// whole rows and columns may be zero.
func TestP3_2MulOfFractions(t *testing.T) {
	a, b := parse("1/2 1/3 0;0 0 0;2/5 4/5 -6"), parse("0 5/6 1/7;0 -5/4 1/49;0 2 0")
	got, errno := matrix.Mul(a, b)
	sameMatrix(t, "Mul", got, errno, parse("0 0 23/294;0 0 0;0 -38/3 18/245"), api.OK)
}

func TestP3_2Laws(t *testing.T) {
	g := generator(5)
	for range 30 {
		n := g.below(4) + 1
		a, b, c := g.matrix(n, n, 5, 6), g.matrix(n, n, 5, 6), g.matrix(n, n, 5, 6)
		ab, _ := matrix.Mul(a, b)
		bc, _ := matrix.Mul(b, c)
		left, _ := matrix.Mul(ab, c)
		right, errno := matrix.Mul(a, bc)
		sameMatrix(t, "associativity", left, errno, right, api.OK)
		sum, _ := matrix.Add(b, c)
		left, _ = matrix.Mul(a, sum)
		ac, _ := matrix.Mul(a, c)
		right, errno = matrix.Add(ab, ac)
		sameMatrix(t, "distributivity", left, errno, right, api.OK)
	}
}

func TestP3_3Reduce(t *testing.T) {
	for _, m := range sample() {
		want, wantPivots, _ := toTable(m).reduce()
		got, pivots, errno := matrix.Reduce(m)
		sameMatrix(t, "Reduce of "+text(m), got, errno, want.matrix(), api.OK)
		if !slices.Equal(pivots, wantPivots) {
			t.Errorf("pivots of %s: %v, not %v", text(m), pivots, wantPivots)
		}
	}
}

func TestP3_3Examples(t *testing.T) {
	for in, want := range map[string]string{
		"2 4;1 2":         "1 2;0 0",
		"0 0;0 0":         "0 0;0 0",
		"0 0 3":           "0 0 1",
		"0 1 2;0 2 5":     "0 1 0;0 0 1",
		"1 1 1 1;1 2 3 4": "1 0 -1 -2;0 1 2 3",
		"1/2;1/3;1/6":     "1;0;0",
		"0 2;0 4;3 0":     "1 0;0 1;0 0",
		"2 2 2;2 2 3":     "1 1 0;0 0 1",
	} {
		got, _, errno := matrix.Reduce(parse(in))
		sameMatrix(t, "Reduce of "+in, got, errno, parse(want), api.OK)
	}
}

func TestP3_3Rank(t *testing.T) {
	for _, m := range sample() {
		_, pivots, _ := toTable(m).reduce()
		rank, errno := matrix.Rank(m)
		same(t, "Rank of "+text(m), rank, len(pivots))
		same(t, "error of Rank", errno, api.OK)
	}
	g := generator(6)
	m := g.ofRank(11, 64, 64, 6, 1)
	rank, errno := matrix.Rank(m)
	same(t, "Rank", rank, 11)
	same(t, "error of Rank", errno, api.OK)
}

func TestP3_4Det(t *testing.T) {
	for _, m := range squares() {
		_, _, want := toTable(m).reduce()
		det, errno := matrix.Det(m)
		sameVector(t, "Det of "+text(m), []string{det}, errno, []string{want.RatString()}, api.OK)
	}
	for in, want := range map[string]string{
		"-5": "-5", "1/2": "1/2", "0": "0", "1 2;3 4": "-2", "0 1;1 0": "-1", "2 0;0 3": "6", "4 6;6 9": "0",
		"0 1 0;0 0 1;1 0 0": "1", "0 0 1;0 1 0;1 0 0": "-1", "0 1;0 2": "0", "1/2 1/3;1/4 1/5": "1/60", "-2 0;0 1/2": "-1",
	} {
		det, errno := matrix.Det(parse(in))
		sameVector(t, "Det of "+in, []string{det}, errno, []string{want}, api.OK)
	}
}

// The determinant is multiplicative, and its residue is that of package modular.
func TestP3_4DetLaws(t *testing.T) {
	const prime = 1_000_003
	g := generator(7)
	for range 40 {
		n := g.below(6) + 1
		a, b := g.matrix(n, n, 30, 50), g.matrix(n, n, 30, 50)
		product, _ := matrix.Mul(a, b)
		detA, _ := matrix.Det(a)
		detB, _ := matrix.Det(b)
		det, errno := matrix.Det(product)
		want := new(big.Rat).Mul(toTable(parse(detA))[0][0], toTable(parse(detB))[0][0])
		sameVector(t, "Det", []string{det}, errno, []string{want.RatString()}, api.OK)
		residues := make([][]int, n)
		for i, s := range a.Elems {
			rest, _ := modular.Reduce(s, prime)
			residues[i/n] = append(residues[i/n], rest)
		}
		wantRest, _ := modular.Det(residues, prime)
		rest, _ := modular.Reduce(detA, prime)
		same(t, "residue of Det", rest, wantRest)
	}
}

func TestP3_4DetOfLargestMatrices(t *testing.T) {
	triangle := newTable(64, 64)
	for i, row := range triangle {
		for j, x := range row[:i+1] {
			x.SetFrac64(int64(j-i-1), int64(i+j+1))
		}
	}
	want := big.NewRat(1, 1)
	for i := range triangle {
		want.Mul(want, big.NewRat(-1, int64(2*i+1)))
	}
	slices.Reverse(triangle) // an even number of exchanges
	det, errno := matrix.Det(triangle.matrix())
	sameVector(t, "Det", []string{det}, errno, []string{want.RatString()}, api.OK)
}

func TestP3_4Inverse(t *testing.T) {
	for _, m := range squares() {
		_, pivots, _ := toTable(m).reduce()
		got, errno := matrix.Inverse(m)
		if len(pivots) < m.Rows {
			sameMatrix(t, "Inverse of "+text(m), got, errno, api.Matrix{}, api.ErrSingular)
			continue
		}
		identity, _ := matrix.Identity(m.Rows)
		product := toTable(m).times(toTable(got)).matrix()
		sameMatrix(t, "product with the inverse of "+text(m), product, errno, identity, api.OK)
	}
	for in, want := range map[string]string{"2": "1/2", "1 2;3 4": "-2 1;3/2 -1/2", "0 1;1 0": "0 1;1 0", "0 1 0;0 0 1;1 0 0": "0 0 1;1 0 0;0 1 0"} {
		got, errno := matrix.Inverse(parse(in))
		sameMatrix(t, "Inverse of "+in, got, errno, parse(want), api.OK)
	}
	for _, in := range []string{"0", "0 1;0 2", "0 0;1 2", "1 2;2 4", "1 2 3;4 5 6;7 8 9", "0 0 1;0 1 0;0 1 1"} {
		got, errno := matrix.Inverse(parse(in))
		sameMatrix(t, "Inverse of "+in, got, errno, api.Matrix{}, api.ErrSingular)
	}
}

func TestP3_4Kernel(t *testing.T) {
	for _, m := range sample() {
		echelon, pivots, _ := toTable(m).reduce()
		var want api.Matrix
		for free := range m.Cols {
			if slices.Contains(pivots, free) {
				continue
			}
			x := newTable(1, m.Cols)[0]
			x[free].SetInt64(1)
			for i, col := range pivots {
				x[col].Neg(echelon[i][free])
			}
			want.Rows, want.Cols = want.Rows+1, m.Cols
			want.Elems = append(want.Elems, texts(x)...)
		}
		got, errno := matrix.Kernel(m)
		sameMatrix(t, "Kernel of "+text(m), got, errno, want, api.OK)
		same(t, "rank and rows of Kernel", got.Rows+len(pivots), m.Cols)
	}
	for in, want := range map[string]string{"2 4;1 2": "-2 1", "0 0": "1 0;0 1", "0 3 0": "1 0 0;0 0 1", "1 2 3": "-2 1 0;-3 0 1"} {
		got, errno := matrix.Kernel(parse(in))
		sameMatrix(t, "Kernel of "+in, got, errno, parse(want), api.OK)
	}
	zeros := api.Matrix{Rows: 64, Cols: 64, Elems: slices.Repeat([]string{"0"}, 64*64)}
	identity, _ := matrix.Identity(64)
	got, errno := matrix.Kernel(zeros)
	sameMatrix(t, "Kernel", got, errno, identity, api.OK)
}

func TestP3_5Solve(t *testing.T) {
	g := generator(8)
	for _, m := range sample() {
		a := toTable(m)
		b := a.times(toTable(toColumn(g.numbers(m.Cols, 10, 3)))).matrix().Elems
		checkSolve(t, m, b)
		checkSolve(t, m, slices.Repeat([]string{"0"}, m.Rows))
		checkSolve(t, m, g.numbers(m.Rows, 10, 3))
		b[g.below(m.Rows)] = "12345/67"
		checkSolve(t, m, b)
	}
}

// checkSolve compares with the reduced row echelon form of the matrix and the
// vector beside it.
func checkSolve(t *testing.T, m api.Matrix, b []string) {
	t.Helper()
	x, y, errno := matrix.Solve(m, b)
	a := toTable(m)
	for i, c := range toTable(toColumn(b)) {
		a[i] = append(a[i], c[0])
	}
	echelon, pivots, _ := a.reduce()
	if slices.Contains(pivots, m.Cols) {
		checkRefutation(t, a, x, y, errno)
		return
	}
	want := newTable(1, m.Cols)[0]
	for i, col := range pivots {
		want[col] = echelon[i][m.Cols]
	}
	sameVector(t, "Solve", x, errno, texts(want), api.OK)
	same(t, "elements of the second vector", len(y), 0)
}

func checkRefutation(t *testing.T, a table, x, y []string, errno api.Errno) {
	t.Helper()
	if errno != api.ErrNone || len(x) > 0 || len(y) != len(a) {
		t.Errorf("Solve: %v, %v and %d where there is no solution", x, y, errno)
		return
	}
	got := toTable(api.Matrix{Rows: 1, Cols: len(y), Elems: y}).times(a)[0]
	want := newTable(1, len(a[0]))[0]
	want[len(want)-1].SetInt64(1)
	sameVector(t, "products with y", texts(got), api.OK, texts(want), api.OK)
}

func TestP3_5Examples(t *testing.T) {
	for _, c := range [][3]string{
		{"1 2;3 4", "5 6", "-4 9/2"}, {"1 1 1 1;1 2 3 4", "1 2", "0 1 0 0"}, {"0 0 2", "3", "0 0 3/2"},
		{"2 4;1 2", "2 1", "1 0"}, {"0 0", "0", "0 0"}, {"1;2;3", "1/2 1 3/2", "1/2"},
	} {
		x, y, errno := matrix.Solve(parse(c[0]), strings.Fields(c[1]))
		sameVector(t, "Solve", x, errno, strings.Fields(c[2]), api.OK)
		same(t, "elements of y", len(y), 0)
	}
	x, y, errno := matrix.Solve(parse("2 4;1 2"), []string{"2", "2"})
	sameVector(t, "y", y, errno, []string{"-1/2", "1"}, api.ErrNone)
	same(t, "elements of x", len(x), 0)
	g := generator(9)
	checkSolve(t, g.matrix(64, 64, 3, 1), g.numbers(64, 3, 1))
	checkSolve(t, g.matrix(64, 5, 3, 1), g.numbers(64, 3, 1))
}

func TestP3_5Errors(t *testing.T) {
	for _, c := range []struct {
		m    string
		b    []string
		want api.Errno
	}{
		{"1 2", nil, api.ErrShape},
		{"1 2", []string{"1", "2"}, api.ErrShape},
		{"1;2", []string{"1"}, api.ErrShape},
		{"0;0", []string{"1", "2", "3"}, api.ErrShape},
		{"1 2", []string{"x"}, api.ErrInvalid},
		{"1 2", []string{"1", "2", "-0"}, api.ErrInvalid},
	} {
		x, y, errno := matrix.Solve(parse(c.m), c.b)
		sameVector(t, "Solve", x, errno, nil, c.want)
		sameVector(t, "Solve", y, errno, nil, c.want)
	}
}

func TestP3_6LU(t *testing.T) {
	for _, m := range squares() {
		wantP, wantL, wantU, invertible := toTable(m).factor()
		p, l, u, errno := matrix.LU(m)
		if !invertible {
			sameMatrix(t, "L of "+text(m), l, errno, api.Matrix{}, api.ErrSingular)
			sameMatrix(t, "U of "+text(m), u, errno, api.Matrix{}, api.ErrSingular)
			same(t, "elements of p", len(p), 0)
			continue
		}
		sameMatrix(t, "L of "+text(m), l, errno, wantL.matrix(), api.OK)
		sameMatrix(t, "U of "+text(m), u, errno, wantU.matrix(), api.OK)
		if !slices.Equal(p, wantP) {
			t.Errorf("p of %s: %v, not %v", text(m), p, wantP)
		}
		product := toTable(l).times(toTable(u))
		for i, place := range p {
			sameVector(t, "row of L times U", texts(product[i]), api.OK, texts(toTable(m)[place]), api.OK)
		}
	}
}

func TestP3_6Examples(t *testing.T) {
	for _, c := range []struct {
		in   string
		p    []int
		l, u string
	}{
		{"0 1;1 0", []int{1, 0}, "1 0;0 1", "1 0;0 1"},
		{"1 5;7 2", []int{0, 1}, "1 0;7 1", "1 5;0 -33"},
		{"0 2 1;1 1 1;2 4 1", []int{1, 0, 2}, "1 0 0;0 1 0;2 1 1", "1 1 1;0 2 1;0 0 -2"},
		{"1 1 0;1 1 1;0 1 0", []int{0, 2, 1}, "1 0 0;0 1 0;1 0 1", "1 1 0;0 1 0;0 0 1"},
		{"0 0 1;2 0 0;0 3 0", []int{1, 2, 0}, "1 0 0;0 1 0;0 0 1", "2 0 0;0 3 0;0 0 1"},
		{"1/2 1/3;1/4 1/5", []int{0, 1}, "1 0;1/2 1", "1/2 1/3;0 1/30"},
		{"-3", []int{0}, "1", "-3"},
	} {
		p, l, u, errno := matrix.LU(parse(c.in))
		sameMatrix(t, "L of "+c.in, l, errno, parse(c.l), api.OK)
		sameMatrix(t, "U of "+c.in, u, errno, parse(c.u), api.OK)
		if !slices.Equal(p, c.p) {
			t.Errorf("p of %s: %v, not %v", c.in, p, c.p)
		}
	}
}

// The functions of one matrix return the same errors; so do those that need a
// square matrix.
func TestP3_ErrorsOfOneMatrix(t *testing.T) {
	for _, m := range notMatrices() {
		checkErrors(t, m, api.ErrInvalid, api.ErrInvalid)
	}
	for _, in := range []string{"1 2", "1;2", "0 0;0 0;0 0", "1 2 3;4 5 6"} {
		checkErrors(t, parse(in), api.OK, api.ErrShape)
	}
}

func checkErrors(t *testing.T, m api.Matrix, anyShape, square api.Errno) {
	t.Helper()
	results := make(map[string]api.Matrix)
	errnos := make(map[string]api.Errno)
	results["Transpose"], errnos["Transpose"] = matrix.Transpose(m)
	results["Scale"], errnos["Scale"] = matrix.Scale("1", m)
	results["Kernel"], errnos["Kernel"] = matrix.Kernel(m)
	var pivots, p []int
	results["Reduce"], pivots, errnos["Reduce"] = matrix.Reduce(m)
	rank, errno := matrix.Rank(m)
	same(t, "Rank", errno, anyShape)
	for name, errno := range errnos {
		same(t, name, errno, anyShape)
		if errno != api.OK && (text(results[name]) != "" || rank != 0 || len(pivots) > 0) {
			t.Errorf("%s: a result with an error", name)
		}
	}
	clear(errnos)
	results["Inverse"], errnos["Inverse"] = matrix.Inverse(m)
	p, results["L"], results["U"], errnos["L"] = matrix.LU(m)
	errnos["U"] = errnos["L"]
	det, errno := matrix.Det(m)
	same(t, "Det", errno, square)
	for name, errno := range errnos {
		same(t, name, errno, square)
		if text(results[name]) != "" || det != "" || len(p) > 0 {
			t.Errorf("%s: a result with an error", name)
		}
	}
}

func TestP3_ErrorsOfPairs(t *testing.T) {
	good := parse("1 2;3 4")
	operations := map[string]func(a, b api.Matrix) (api.Matrix, api.Errno){"Add": matrix.Add, "Sub": matrix.Sub, "Mul": matrix.Mul}
	for _, bad := range notMatrices() {
		for name, operation := range operations {
			got, errno := operation(bad, good)
			sameMatrix(t, name, got, errno, api.Matrix{}, api.ErrInvalid)
			got, errno = operation(good, bad)
			sameMatrix(t, name, got, errno, api.Matrix{}, api.ErrInvalid)
		}
		x, errno := matrix.Apply(bad, []string{"1", "2"})
		sameVector(t, "Apply", x, errno, nil, api.ErrInvalid)
		x, y, errno := matrix.Solve(bad, []string{"1", "2"})
		sameVector(t, "Solve", append(x, y...), errno, nil, api.ErrInvalid)
		got, errno := matrix.Scale("x", bad)
		sameMatrix(t, "Scale", got, errno, api.Matrix{}, api.ErrInvalid)
	}
}

// guard returns a copy of a list whose spare capacity is filled with a mark.
func guard[T any](list []T, mark T) []T {
	long := slices.Grow(slices.Clone(list), 3)[:len(list)+3]
	for i := len(list); i < len(long); i++ {
		long[i] = mark
	}
	return long[:len(list)]
}

func TestP3_ArgumentsStay(t *testing.T) {
	for _, in := range []string{"2 4;1 2", "0 1;1 1/2", "3 1;1 0"} {
		m := parse(in)
		m.Elems = guard(m.Elems, "mark")
		b := guard([]string{"1/2", "3"}, "mark")
		results := callAll(m, b)
		for _, list := range results {
			for i := range list[:cap(list)] {
				list[:cap(list)][i] = "overwritten"
			}
		}
		same(t, "matrix", strings.Join(m.Elems[:len(m.Elems)+3], " "), strings.Join(parse(in).Elems, " ")+" mark mark mark")
		same(t, "vector", strings.Join(b[:5], " "), "1/2 3 mark mark mark")
	}
}

// callAll returns the slices of strings that all functions return.
func callAll(m api.Matrix, b []string) [][]string {
	var results [][]string
	keep := func(m api.Matrix, errno api.Errno) {
		results = append(results, m.Elems)
	}
	keep(matrix.New([][]string{m.Elems[:2], m.Elems[2:]}))
	keep(matrix.New([][]string{m.Elems}))
	keep(matrix.Transpose(m))
	keep(matrix.Add(m, m))
	keep(matrix.Sub(m, m))
	keep(matrix.Scale("1", m))
	keep(matrix.Mul(m, m))
	keep(matrix.Inverse(m))
	keep(matrix.Kernel(m))
	reduced, _, errno := matrix.Reduce(m)
	keep(reduced, errno)
	_, l, u, errno := matrix.LU(m)
	keep(l, errno)
	keep(u, errno)
	product, _ := matrix.Apply(m, b)
	x, y, _ := matrix.Solve(m, b)
	return append(results, product, x, y)
}
