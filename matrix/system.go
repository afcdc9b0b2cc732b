package matrix

import (
	"sosopt/api"
	"sosopt/fraction"
)

// Reduce returns the reduced row echelon form of m and its pivot columns.
func Reduce(m api.Matrix) (api.Matrix, []int, api.Errno) {
	g, errno := read(m)
	if errno != api.OK {
		return api.Matrix{}, nil, errno
	}
	e := eliminate(g)
	reduced := newGrid(g.rows, g.cols)
	for i, col := range e.pivots {
		reduced.row(i)[col] = fraction.One()
	}
	for j := range g.cols {
		if !e.isPivot(j) {
			reduced.setColumn(j, e.column(j))
		}
	}
	return reduced.matrix(), e.pivots, api.OK
}

// Rank returns the number of pivot columns of m.
func Rank(m api.Matrix) (int, api.Errno) {
	g, errno := read(m)
	if errno != api.OK {
		return 0, errno
	}
	return len(eliminate(g).pivots), api.OK
}

// Det returns the determinant of the square matrix m.
func Det(m api.Matrix) (string, api.Errno) {
	g, errno := readSquare(m)
	if errno != api.OK {
		return "", errno
	}
	return eliminate(g).det().String(), api.OK
}

// Inverse returns the inverse of the square matrix m.
func Inverse(m api.Matrix) (api.Matrix, api.Errno) {
	g, errno := readSquare(m)
	if errno != api.OK {
		return api.Matrix{}, errno
	}
	e := eliminate(g.beside(identity(g.rows)))
	if e.pivots[g.rows-1] >= g.cols {
		return api.Matrix{}, api.ErrSingular
	}
	inverse := newGrid(g.rows, g.cols)
	for j := range g.cols {
		inverse.setColumn(j, e.column(g.cols+j))
	}
	return inverse.matrix(), api.OK
}

// Kernel returns the matrix whose rows are, for each column of m that is no pivot
// column, the vector x with m x = 0 in which the element of this column is 1 and
// those of the other columns that are no pivot columns are 0.
func Kernel(m api.Matrix) (api.Matrix, api.Errno) {
	g, errno := read(m)
	if errno != api.OK {
		return api.Matrix{}, errno
	}
	e := eliminate(g)
	kernel := grid{cols: g.cols}
	for j := range g.cols {
		if e.isPivot(j) {
			continue
		}
		x := make([]fraction.Fraction, g.cols)
		for i, value := range e.column(j) {
			x[e.pivots[i]] = value.Neg()
		}
		x[j] = fraction.One()
		kernel.rows++
		kernel.elems = append(kernel.elems, x...)
	}
	if kernel.rows == 0 {
		return api.Matrix{}, api.OK
	}
	return kernel.matrix(), api.OK
}

// Solve returns the vector x with m x = b in which all elements of columns that
// are no pivot columns are 0. If there is no solution, it returns ErrNone and, as
// the second vector, some y with y m = 0 and y b = 1.
func Solve(m api.Matrix, b []string) ([]string, []string, api.Errno) {
	g, right, errno := readSystem(m, b)
	switch {
	case errno != api.OK:
		return nil, nil, errno
	case right.rows != g.rows:
		return nil, nil, api.ErrShape
	}
	if x, ok := solve(g, right); ok {
		return fraction.Texts(x), nil, api.OK
	}
	return nil, fraction.Texts(refute(g, right)), api.ErrNone
}

// solve returns the solution of g x = b in which all elements of columns that are
// no pivot columns are 0, and false if there is no solution.
func solve(g, b grid) ([]fraction.Fraction, bool) {
	e := eliminate(g.beside(b))
	if e.isPivot(g.cols) {
		return nil, false
	}
	x := make([]fraction.Fraction, g.cols)
	for i, value := range e.column(g.cols) {
		x[e.pivots[i]] = value
	}
	return x, true
}

// refute returns some y with y g = 0 and y b = 1, where g x = b has no solution.
func refute(g, b grid) []fraction.Fraction {
	conditions := g.beside(b).transpose()
	values := newGrid(conditions.rows, 1)
	values.row(g.cols)[0] = fraction.One()
	y, _ := solve(conditions, values)
	return y
}

// LU returns, for the invertible matrix m, a permutation p, a lower triangular
// matrix l with ones on the diagonal and an upper triangular matrix u such that
// row i of l times u is row p[i] of m.
func LU(m api.Matrix) ([]int, api.Matrix, api.Matrix, api.Errno) {
	g, errno := readSquare(m)
	if errno != api.OK {
		return nil, api.Matrix{}, api.Matrix{}, errno
	}
	e := eliminate(g)
	if !e.isInvertible() {
		return nil, api.Matrix{}, api.Matrix{}, api.ErrSingular
	}
	return e.order, e.lower().matrix(), e.upper().matrix(), api.OK
}
