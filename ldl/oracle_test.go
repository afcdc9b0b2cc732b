package ldl_test

import (
	"math/big"
	"slices"
	"strings"
	"testing"

	"sosopt/api"
)

func same[T comparable](t *testing.T, name string, got, want T) {
	t.Helper()
	if got != want {
		t.Errorf("%s: %v, not %v", name, got, want)
	}
}

// table is a matrix of the oracle.
type table [][]*big.Rat

func newTable(rows, cols int) table {
	a := make(table, rows)
	for i := range a {
		for range cols {
			a[i] = append(a[i], new(big.Rat))
		}
	}
	return a
}

// parse reads rows that are separated by semicolons, and elements by blanks.
func parse(text string) api.Matrix {
	var m api.Matrix
	for row := range strings.SplitSeq(text, ";") {
		elems := strings.Fields(row)
		m.Rows++
		m.Cols = len(elems)
		m.Elems = append(m.Elems, elems...)
	}
	return m
}

// text shows a matrix in messages, and serves to compare matrices.
func text(m api.Matrix) string {
	if m.Rows == 0 && m.Cols == 0 && len(m.Elems) == 0 {
		return ""
	}
	if m.Rows < 1 || m.Cols < 1 || len(m.Elems) != m.Rows*m.Cols {
		return "not a matrix"
	}
	var rows []string
	for row := range slices.Chunk(m.Elems, m.Cols) {
		rows = append(rows, strings.Join(row, " "))
	}
	return strings.Join(rows, ";")
}

func toRat(s string) *big.Rat {
	x, ok := new(big.Rat).SetString(s)
	if !ok {
		panic(s)
	}
	return x
}

func toTable(m api.Matrix) table {
	a := newTable(m.Rows, m.Cols)
	for i, s := range m.Elems {
		a[i/m.Cols][i%m.Cols].Set(toRat(s))
	}
	return a
}

func toColumn(list []string) table {
	return toTable(api.Matrix{Rows: len(list), Cols: 1, Elems: list})
}

func (a table) matrix() api.Matrix {
	m := api.Matrix{Rows: len(a), Cols: len(a[0])}
	for _, row := range a {
		for _, x := range row {
			m.Elems = append(m.Elems, x.RatString())
		}
	}
	return m
}

// part returns the elements in rows and columns that are at least the first and
// less than the second number.
func (a table) part(row, endRow, col, endCol int) table {
	b := newTable(endRow-row, endCol-col)
	for i := range b {
		for j := range b[i] {
			b[i][j].Set(a[row+i][col+j])
		}
	}
	return b
}

func (a table) transpose() table {
	b := newTable(len(a[0]), len(a))
	for i, row := range a {
		for j, x := range row {
			b[j][i].Set(x)
		}
	}
	return b
}

func (a table) times(b table) table {
	c := newTable(len(a), len(b[0]))
	for i, row := range a {
		for k, x := range row {
			if x.Sign() == 0 {
				continue
			}
			for j, y := range b[k] {
				c[i][j].Add(c[i][j], new(big.Rat).Mul(x, y))
			}
		}
	}
	return c
}

func (a table) minus(b table) table {
	c := newTable(len(a), len(a[0]))
	for i, row := range c {
		for j, x := range row {
			x.Sub(a[i][j], b[i][j])
		}
	}
	return c
}

// diagonal returns the square matrix with the given diagonal and zeros.
func diagonal(d []string) table {
	a := newTable(len(d), len(d))
	for i, s := range d {
		a[i][i].Set(toRat(s))
	}
	return a
}

// value returns v' a v.
func (a table) value(v []string) *big.Rat {
	column := toColumn(v)
	return column.transpose().times(a).times(column)[0][0]
}

// quotient returns a^-1 b, and false if a is not invertible.
func (a table) quotient(b table) (table, bool) {
	a, b = a.part(0, len(a), 0, len(a)), b.part(0, len(b), 0, len(b[0]))
	for k := range a {
		i := k
		for i < len(a) && a[i][k].Sign() == 0 {
			i++
		}
		if i == len(a) {
			return nil, false
		}
		a[i], a[k] = a[k], a[i]
		b[i], b[k] = b[k], b[i]
		pivot := new(big.Rat).Set(a[k][k])
		for _, x := range slices.Concat(a[k], b[k]) {
			x.Quo(x, pivot)
		}
		for i := range a {
			if i != k {
				factor := new(big.Rat).Set(a[i][k])
				subtract(a[i], a[k], factor)
				subtract(b[i], b[k], factor)
			}
		}
	}
	return b, true
}

func subtract(row, source []*big.Rat, factor *big.Rat) {
	for j, x := range source {
		row[j].Sub(row[j], new(big.Rat).Mul(factor, x))
	}
}

// inertia returns the numbers of positive, zero and negative eigenvalues of a
// symmetric matrix. As all roots of its characteristic polynomial are real, the
// number of positive ones is the number of changes of the signs of its
// coefficients; these are computed by the method of Faddeev and LeVerrier.
func (a table) inertia() [3]int {
	n := len(a)
	coefs := []*big.Rat{big.NewRat(1, 1)}
	power := newTable(n, n)
	for k := 1; k <= n; k++ {
		for i := range n {
			power[i][i].Add(power[i][i], coefs[k-1])
		}
		power = a.times(power)
		trace := new(big.Rat)
		for i := range n {
			trace.Add(trace, power[i][i])
		}
		coefs = append(coefs, trace.Mul(trace, big.NewRat(-1, int64(k))))
	}
	zeros := 0
	for coefs[n-zeros].Sign() == 0 {
		zeros++
	}
	positive, last := 0, 1
	for _, c := range coefs {
		if c.Sign() == -last {
			positive++
			last = -last
		}
	}
	return [3]int{positive, zeros, n - zeros - positive}
}

// generator is a source of bits that is the same in every run.
type generator uint64

func (g *generator) next() uint64 {
	*g ^= *g << 13
	*g ^= *g >> 7
	*g ^= *g << 17
	return uint64(*g)
}

func (g *generator) below(n int) int {
	return int(g.next() % uint64(n))
}

// number returns a number of which the numerator has up to the given number of
// bits, and the denominator is at most den.
func (g *generator) number(bits, den int) string {
	num := new(big.Int)
	for range (bits + 63) / 64 {
		num.Lsh(num, 64)
		num.Or(num, new(big.Int).SetUint64(g.next()))
	}
	num.Rsh(num, uint((64-bits%64)%64))
	if g.below(2) == 0 {
		num.Neg(num)
	}
	return new(big.Rat).SetFrac(num, big.NewInt(int64(g.below(den)+1))).RatString()
}

func (g *generator) numbers(n, bits, den int) []string {
	var list []string
	for range n {
		list = append(list, g.number(bits, den))
	}
	return list
}

func (g *generator) table(rows, cols, bits, den int) table {
	return toTable(api.Matrix{Rows: rows, Cols: cols, Elems: g.numbers(rows*cols, bits, den)})
}

func (g *generator) symmetric(n, bits, den int) table {
	a := g.table(n, n, bits, den)
	for i := range a {
		for j := range i {
			a[j][i].Set(a[i][j])
		}
	}
	return a
}

// sparse returns a symmetric matrix most of whose elements are 0. The diagonal is
// 0 if hollow is true.
func (g *generator) sparse(n int, hollow bool) table {
	a := g.symmetric(n, 3, 2)
	for i := range a {
		for j := range i + 1 {
			if g.below(3) > 0 || i == j && hollow {
				a[i][j].SetInt64(0)
				a[j][i].SetInt64(0)
			}
		}
	}
	return a
}

// unitLower returns a lower triangular matrix with ones on the diagonal.
func (g *generator) unitLower(n, bits, den int) table {
	a := g.table(n, n, bits, den)
	for i, row := range a {
		row[i].SetInt64(1)
		for _, x := range row[i+1:] {
			x.SetInt64(0)
		}
	}
	return a
}

// square returns c c' for a matrix c with the given number of columns.
func (g *generator) square(n, cols, bits, den int) table {
	c := g.table(n, cols, bits, den)
	return c.times(c.transpose())
}

// congruent returns c diag(d) c' for an invertible matrix c.
func (g *generator) congruent(d []string, bits, den int) table {
	n := len(d)
	c := g.unitLower(n, bits, den).times(g.unitLower(n, bits, den).transpose())
	return c.times(diagonal(d)).times(c.transpose())
}

// sample contains symmetric matrices of all inertias, with short and long numbers.
func sample() []api.Matrix {
	g := generator(1)
	list := append(smallMatrices(2, 2), smallMatrices(3, 1)...)
	for _, s := range []string{
		"7", "-3/4", "4 2;2 1", "1/2 1/3;1/3 2/9", "1/2 1/3;1/3 1/5", "2 -1 0;-1 2 -1;0 -1 2", "1 0 1;0 0 0;1 0 2", "0 0 1;0 1 0;1 0 5",
		"1 1 1;1 1 2;1 2 1", "1 0 0;0 0 0;0 0 -1/1000000", "0 0 0;0 0 2;0 2 0", "0 0 0;0 0 2;0 2 -7", "0 0 0;0 0 2/3;0 2/3 5/7",
		"0 1/2 1/3;1/2 0 1/5;1/3 1/5 0", "0 6 10;6 0 15;10 15 0", "0 2/3 0 0;2/3 0 0 0;0 0 0 -1/7;0 0 -1/7 0", "1000 2000;2000 4000",
		"4 2 6 2;2 1 3 1;6 3 9 4;2 1 4 7", "4 2 6 2;2 1 3 1;6 3 9 3;2 1 3 1", "1 2 3 4;2 4 6 8;3 6 9 12;4 8 12 15",
	} {
		list = append(list, parse(s))
	}
	for range 40 {
		n := g.below(6) + 1
		for _, a := range []table{
			g.symmetric(n, 3, 1), g.symmetric(n, 4, 5), g.sparse(n, false), g.sparse(n, true), g.square(n, g.below(n)+1, 3, 1),
			g.square(n, n, 3, 4), g.square(n, n, 2, 1).minus(g.sparse(n, false)), g.square(n, g.below(n)+1, 2, 3).minus(g.square(n, 1, 1, 6)),
			g.congruent(g.numbers(n, 1, 3), 2, 1), g.congruent(g.numbers(n, 1, 1), 2, 2),
		} {
			list = append(list, a.matrix())
		}
	}
	for range 3 {
		for _, a := range []table{
			g.symmetric(8, 70, 1<<30), g.square(8, 5, 64, 12), g.square(8, 8, 100, 1), g.sparse(14, false), g.sparse(14, true),
		} {
			list = append(list, a.matrix())
		}
	}
	return list
}

// smallMatrices returns all symmetric matrices whose elements are integers from
// -size to size.
func smallMatrices(n, size int) []api.Matrix {
	list := []table{newTable(n, n)}
	for i := range n {
		for j := range i + 1 {
			var longer []table
			for _, a := range list {
				for x := -size; x <= size; x++ {
					b := a.part(0, n, 0, n)
					b[i][j].SetInt64(int64(x))
					b[j][i].SetInt64(int64(x))
					longer = append(longer, b)
				}
			}
			list = longer
		}
	}
	var matrices []api.Matrix
	for _, a := range list {
		matrices = append(matrices, a.matrix())
	}
	return matrices
}

func sameMatrix(t *testing.T, name string, got api.Matrix, errno api.Errno, want api.Matrix, code api.Errno) {
	t.Helper()
	if errno != code || text(got) != text(want) {
		t.Errorf("%s: %s and %d, not %s and %d", name, text(got), errno, text(want), code)
	}
}
