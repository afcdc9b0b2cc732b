package matrix_test

import (
	"math/big"
	"slices"
	"strings"
	"testing"

	"sosopt/api"
)

func same[T comparable](t *testing.T, name string, got, want T) {
	t.Helper()
	if got != want {
		t.Errorf("%s: %v, not %v", name, got, want)
	}
}

// table is a matrix of the oracle.
type table [][]*big.Rat

func newTable(rows, cols int) table {
	a := make(table, rows)
	for i := range a {
		for range cols {
			a[i] = append(a[i], new(big.Rat))
		}
	}
	return a
}

// parse reads rows that are separated by semicolons, and elements by blanks.
func parse(text string) api.Matrix {
	var m api.Matrix
	for row := range strings.SplitSeq(text, ";") {
		elems := strings.Fields(row)
		m.Rows++
		m.Cols = len(elems)
		m.Elems = append(m.Elems, elems...)
	}
	return m
}

func toTable(m api.Matrix) table {
	a := newTable(m.Rows, m.Cols)
	for i, s := range m.Elems {
		if _, ok := a[i/m.Cols][i%m.Cols].SetString(s); !ok {
			panic(s)
		}
	}
	return a
}

func (a table) matrix() api.Matrix {
	m := api.Matrix{Rows: len(a), Cols: len(a[0])}
	for _, row := range a {
		m.Elems = append(m.Elems, texts(row)...)
	}
	return m
}

func texts(row []*big.Rat) []string {
	var list []string
	for _, x := range row {
		list = append(list, x.RatString())
	}
	return list
}

func toColumn(list []string) api.Matrix {
	return api.Matrix{Rows: len(list), Cols: 1, Elems: list}
}

func (a table) clone() table {
	b := newTable(len(a), len(a[0]))
	for i, row := range a {
		for j, x := range row {
			b[i][j].Set(x)
		}
	}
	return b
}

func (a table) transpose() table {
	b := newTable(len(a[0]), len(a))
	for i, row := range a {
		for j, x := range row {
			b[j][i].Set(x)
		}
	}
	return b
}

func (a table) times(b table) table {
	c := newTable(len(a), len(b[0]))
	for i, row := range a {
		for k, x := range row {
			for j, y := range b[k] {
				c[i][j].Add(c[i][j], new(big.Rat).Mul(x, y))
			}
		}
	}
	return c
}

// subtract subtracts a multiple of one row from another one.
func (a table) subtract(row, source int, factor *big.Rat) {
	for j, x := range a[source] {
		a[row][j].Sub(a[row][j], new(big.Rat).Mul(factor, x))
	}
}

// reduce returns the reduced row echelon form, the pivot columns, and the
// determinant if a is square. It is the elimination of the textbooks.
func (a table) reduce() (table, []int, *big.Rat) {
	a = a.clone()
	var pivots []int
	det := big.NewRat(1, 1)
	for col := range a[0] {
		place := len(pivots)
		i := place
		for i < len(a) && a[i][col].Sign() == 0 {
			i++
		}
		if i == len(a) {
			det.SetInt64(0)
			continue
		}
		if i > place {
			a[i], a[place] = a[place], a[i]
			det.Neg(det)
		}
		pivot := new(big.Rat).Set(a[place][col])
		det.Mul(det, pivot)
		for _, x := range a[place] {
			x.Quo(x, pivot)
		}
		for k := range a {
			if k != place {
				a.subtract(k, place, new(big.Rat).Set(a[k][col]))
			}
		}
		pivots = append(pivots, col)
	}
	return a, pivots, det
}

// factor returns the factors p, l and u of the chapter, and false if a is not
// invertible.
func (a table) factor() ([]int, table, table, bool) {
	u, l := a.clone(), newTable(len(a), len(a))
	var p []int
	for i := range a {
		p = append(p, i)
	}
	for k := range u {
		i := k
		for i < len(u) && u[i][k].Sign() == 0 {
			i++
		}
		if i == len(u) {
			return nil, nil, nil, false
		}
		u[i], u[k] = u[k], u[i]
		l[i], l[k] = l[k], l[i]
		p[i], p[k] = p[k], p[i]
		for i := k + 1; i < len(u); i++ {
			l[i][k].Quo(u[i][k], u[k][k])
			u.subtract(i, k, l[i][k])
		}
	}
	for k := range l {
		l[k][k].SetInt64(1)
	}
	return p, l, u, true
}

// generator is a source of bits that is the same in every run.
type generator uint64

func (g *generator) next() uint64 {
	*g ^= *g << 13
	*g ^= *g >> 7
	*g ^= *g << 17
	return uint64(*g)
}

func (g *generator) below(n int) int {
	return int(g.next() % uint64(n))
}

// number returns a number of which the numerator has up to the given number of
// bits, and the denominator is at most den.
func (g *generator) number(bits, den int) string {
	num := new(big.Int)
	for range (bits + 63) / 64 {
		num.Lsh(num, 64)
		num.Or(num, new(big.Int).SetUint64(g.next()))
	}
	num.Rsh(num, uint((64-bits%64)%64))
	if g.below(2) == 0 {
		num.Neg(num)
	}
	return new(big.Rat).SetFrac(num, big.NewInt(int64(g.below(den)+1))).RatString()
}

func (g *generator) numbers(n, bits, den int) []string {
	var list []string
	for range n {
		list = append(list, g.number(bits, den))
	}
	return list
}

func (g *generator) matrix(rows, cols, bits, den int) api.Matrix {
	return api.Matrix{Rows: rows, Cols: cols, Elems: g.numbers(rows*cols, bits, den)}
}

// ofRank returns a matrix of at most the given rank, which is at least 1.
func (g *generator) ofRank(rank, rows, cols, bits, den int) api.Matrix {
	left := toTable(g.matrix(rows, rank, bits, den))
	return left.times(toTable(g.matrix(rank, cols, bits, den))).matrix()
}

// sparse returns a matrix most of whose elements are 0.
func (g *generator) sparse(rows, cols int) api.Matrix {
	m := g.matrix(rows, cols, 2, 1)
	for i := range m.Elems {
		if g.below(3) > 0 {
			m.Elems[i] = "0"
		}
	}
	return m
}

// sample contains matrices of all shapes and ranks, with short and long numbers.
func sample() []api.Matrix {
	g := generator(1)
	list := []api.Matrix{
		parse("0"), parse("7"), parse("-3/4"), parse("0 0"), parse("0;0"), parse("0 0;0 0"), parse("0 5;0 0"), parse("0 1;0 2"),
		parse("2 4;1 2"), parse("0 1;1 0"), parse("0 1 2;0 2 5"), parse("1 1 0;1 1 1;0 1 0"), parse("0 0 1;0 1 0;1 0 0"),
		parse("0 0 1;2 0 0;0 3 0"), parse("6 10;15 25"), parse("1000 2000;3000 4000"), parse("1/2 1/3;1/6 1/9"), hilbert(9),
	}
	for range 60 {
		rows, cols := g.below(6)+1, g.below(6)+1
		list = append(list,
			g.matrix(rows, cols, 3, 1), g.matrix(rows, rows, 4, 5), g.sparse(rows, cols), g.sparse(rows, rows),
			g.ofRank(g.below(3)+1, rows, cols, 4, 3), g.ofRank(g.below(4)+1, rows, rows, 3, 1))
	}
	for range 4 {
		list = append(list,
			g.matrix(9, 9, 70, 1<<30), g.matrix(7, 12, 200, 1), g.ofRank(5, 10, 8, 64, 12), g.sparse(17, 17),
			g.sparse(20, 30), g.sparse(30, 20))
	}
	return list
}

// squares contains the square matrices of the sample.
func squares() []api.Matrix {
	return slices.DeleteFunc(sample(), func(m api.Matrix) bool { return m.Rows != m.Cols })
}

func hilbert(n int) api.Matrix {
	a := newTable(n, n)
	for i, row := range a {
		for j, x := range row {
			x.SetFrac64(1, int64(i+j+1))
		}
	}
	return a.matrix()
}

// text shows a matrix in messages, and serves to compare matrices.
func text(m api.Matrix) string {
	if m.Rows == 0 && m.Cols == 0 && len(m.Elems) == 0 {
		return ""
	}
	if m.Rows < 1 || m.Cols < 1 || len(m.Elems) != m.Rows*m.Cols {
		return "not a matrix"
	}
	var rows []string
	for row := range slices.Chunk(m.Elems, m.Cols) {
		rows = append(rows, strings.Join(row, " "))
	}
	return strings.Join(rows, ";")
}

func sameMatrix(t *testing.T, name string, got api.Matrix, errno api.Errno, want api.Matrix, code api.Errno) {
	t.Helper()
	if errno != code || text(got) != text(want) {
		t.Errorf("%s: %s and %d, not %s and %d", name, text(got), errno, text(want), code)
	}
}

func sameVector(t *testing.T, name string, got []string, errno api.Errno, want []string, code api.Errno) {
	t.Helper()
	if errno != code || !slices.Equal(got, want) {
		t.Errorf("%s: %v and %d, not %v and %d", name, got, errno, want, code)
	}
}
