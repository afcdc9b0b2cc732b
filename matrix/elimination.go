package matrix

import (
	"slices"

	"sosopt/fraction"
	"sosopt/integer"
)

// echelon is a table in row echelon form: row i begins with its pivot, in column
// pivots[i], and the rows without pivots are zero. In the places below the pivots,
// which count as 0, the elimination has left the factors of the pivot rows.
//
// The elimination is that of Bareiss: each step multiplies rows by its pivot and
// divides them by the pivot of the step before. All elements are determinants of
// parts of the table, so that the divisions are exact and the numbers stay short.
type echelon struct {
	*table
	pivots []int
}

func eliminate(g grid) echelon {
	e := echelon{table: newTable(g)}
	for col := 0; col < e.cols && len(e.pivots) < e.rows; col++ {
		place := len(e.pivots)
		if !e.raisePivot(place, col) {
			continue
		}
		last := e.lastPivot()
		source := e.row(place)
		for i := place + 1; i < e.rows; i++ {
			row := e.row(i)
			combine(row[col+1:], source[col+1:], source[col], row[col], last)
		}
		e.pivots = append(e.pivots, col)
	}
	return e
}

// raisePivot exchanges the row with the given place with the first one from there
// on whose element in the column is not 0. It returns false if there is none.
func (t *table) raisePivot(place, col int) bool {
	for i := place; i < t.rows; i++ {
		if t.at(i, col).Sign() != 0 {
			t.exchange(place, i)
			return true
		}
	}
	return false
}

// combine replaces row by (pivot * row - factor * source) / divisor.
func combine(row, source []integer.Int, pivot, factor, divisor integer.Int) {
	if factor.Sign() == 0 && pivot.Compare(divisor) == 0 {
		return
	}
	for j, x := range source {
		if row[j].Sign() != 0 || x.Sign() != 0 {
			row[j] = row[j].Mul(pivot).Sub(x.Mul(factor)).DivExact(divisor)
		}
	}
}

// lastPivot returns the pivot of the last step of the elimination, and 1 before the
// first one.
func (e echelon) lastPivot() integer.Int {
	last := len(e.pivots) - 1
	if last < 0 {
		return integer.FromInt64(1)
	}
	return e.at(last, e.pivots[last])
}

// isInvertible reports whether the matrix, which is square, is invertible.
func (e echelon) isInvertible() bool {
	return len(e.pivots) == e.rows
}

func (e echelon) isPivot(col int) bool {
	return slices.Contains(e.pivots, col)
}

// column returns the elements of column j of the reduced row echelon form that are
// in rows with pivots. By Cramer's rule, their products with the last pivot are
// integers, which follow from each other from the last row up.
func (e echelon) column(j int) []fraction.Fraction {
	divisor := e.lastPivot()
	products := make([]integer.Int, len(e.pivots))
	values := make([]fraction.Fraction, len(e.pivots))
	for i := len(e.pivots) - 1; i >= 0; i-- {
		row := e.row(i)
		sum := row[j].Mul(divisor)
		for k := i + 1; k < len(e.pivots); k++ {
			sum = sum.Sub(row[e.pivots[k]].Mul(products[k]))
		}
		products[i] = sum.DivExact(row[e.pivots[i]])
		values[i] = fraction.Quotient(products[i], divisor)
	}
	return values
}

// det returns the determinant of the matrix, which is square.
func (e echelon) det() fraction.Fraction {
	if !e.isInvertible() {
		return fraction.Fraction{}
	}
	det := fraction.FromInteger(e.lastPivot())
	for _, common := range e.contents {
		det = det.Mul(common)
	}
	if e.exchanges%2 == 1 {
		return det.Neg()
	}
	return det
}

// lower returns the factor l of an invertible matrix. That the elimination has
// started from rows divided by their contents has divided the rows of l by them
// and multiplied its columns by them.
func (e echelon) lower() grid {
	l := identity(e.rows)
	for i := range e.rows {
		row := l.row(i)[:i]
		for k := range row {
			factor := fraction.Quotient(e.at(i, k), e.at(k, k))
			row[k] = factor.Mul(e.contents[i]).Div(e.contents[k])
		}
	}
	return l
}

// upper returns the factor u of an invertible matrix. The elimination has divided
// each row by its content and multiplied it by the pivot of the row before.
func (e echelon) upper() grid {
	u := newGrid(e.rows, e.cols)
	multiple := fraction.One()
	for k := range e.rows {
		row, factor := u.row(k), e.contents[k].Div(multiple)
		for j := k; j < e.cols; j++ {
			row[j] = factor.Mul(fraction.FromInteger(e.at(k, j)))
		}
		multiple = fraction.FromInteger(e.at(k, k))
	}
	return u
}
