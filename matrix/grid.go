package matrix

import (
	"sosopt/api"
	"sosopt/fraction"
)

// grid is a matrix of fractions, row by row. It may exceed the limits of a valid
// matrix.
type grid struct {
	rows, cols int
	elems      []fraction.Fraction
}

func newGrid(rows, cols int) grid {
	return grid{rows, cols, make([]fraction.Fraction, rows*cols)}
}

func identity(n int) grid {
	g := newGrid(n, n)
	for i := range n {
		g.row(i)[i] = fraction.One()
	}
	return g
}

// read returns the values of a matrix, and ErrInvalid if it is not valid.
func read(m api.Matrix) (grid, api.Errno) {
	if !hasShape(m) {
		return grid{}, api.ErrInvalid
	}
	elems, ok := fraction.ReadAll(m.Elems)
	if !ok {
		return grid{}, api.ErrInvalid
	}
	return grid{m.Rows, m.Cols, elems}, api.OK
}

func readPair(a, b api.Matrix) (grid, grid, api.Errno) {
	left, errno := read(a)
	if errno != api.OK {
		return grid{}, grid{}, errno
	}
	right, errno := read(b)
	return left, right, errno
}

// readSquare returns the values of a matrix, and ErrShape if it is not square.
func readSquare(m api.Matrix) (grid, api.Errno) {
	g, errno := read(m)
	if errno == api.OK && g.rows != g.cols {
		return grid{}, api.ErrShape
	}
	return g, errno
}

// readSystem returns the values of a matrix and those of a vector as a column.
func readSystem(m api.Matrix, vector []string) (grid, grid, api.Errno) {
	g, errno := read(m)
	if errno != api.OK {
		return grid{}, grid{}, errno
	}
	elems, ok := fraction.ReadAll(vector)
	if !ok {
		return grid{}, grid{}, api.ErrInvalid
	}
	return g, grid{len(elems), 1, elems}, api.OK
}

func (g grid) matrix() api.Matrix {
	return api.Matrix{Rows: g.rows, Cols: g.cols, Elems: fraction.Texts(g.elems)}
}

func (g grid) row(i int) []fraction.Fraction {
	return g.elems[i*g.cols : (i+1)*g.cols]
}

// setColumn replaces the first elements of column j by the values.
func (g grid) setColumn(j int, values []fraction.Fraction) {
	for i, value := range values {
		g.row(i)[j] = value
	}
}

func (g grid) transpose() grid {
	t := newGrid(g.cols, g.rows)
	for i := range g.rows {
		t.setColumn(i, g.row(i))
	}
	return t
}

// beside returns the matrix of which the first columns are those of g, and the
// others those of h, which has as many rows.
func (g grid) beside(h grid) grid {
	joined := newGrid(g.rows, g.cols+h.cols)
	for i := range g.rows {
		row := joined.row(i)
		copy(row[:g.cols], g.row(i))
		copy(row[g.cols:], h.row(i))
	}
	return joined
}

// times returns the product of g and h, which has as many rows as g columns. The
// sums of products are sums of integers, because the rows of g and the columns of
// h are multiples of rows of integers.
func (g grid) times(h grid) grid {
	left, right := newTable(g), newTable(h.transpose())
	product := newGrid(g.rows, h.cols)
	for i := range g.rows {
		for j := range h.cols {
			scale := left.contents[i].Mul(right.contents[j])
			sum := dot(left.row(i), right.row(j))
			product.row(i)[j] = scale.Mul(fraction.FromInteger(sum))
		}
	}
	return product
}
