package ldl

import (
	"slices"

	"sosopt/api"
	"sosopt/fraction"
	"sosopt/integer"
	"sosopt/matrix"
)

// table is a symmetric matrix in the course of an elimination, which takes away a
// row and the column with the same number in each step. What is left is again a
// symmetric matrix: its element i, j is at(i, j) * contents[i] / divisor.
//
// The elimination is that of Bareiss, for rows that have been divided by their
// contents: the elements are determinants of integers, so that the divisions by
// the pivot of the step before are exact and the numbers stay short. The rows
// that were taken away stay in the table as they were then.
type table struct {
	size     int
	elems    []integer.Int       // row by row; those below the diagonal are not used
	contents []fraction.Fraction // the contents of the rows; 0 for a row of zeros
	rest     []int               // the numbers of the rows that are left, ascending
	divisor  integer.Int         // the last pivot; 1 before the first step
}

// read returns the table of a symmetric matrix before the first step.
func read(m api.Matrix) (*table, api.Errno) {
	switch {
	case !matrix.Valid(m):
		return nil, api.ErrInvalid
	case !isSymmetric(m):
		return nil, api.ErrShape
	}
	values, _ := fraction.ReadAll(m.Elems)
	t := &table{size: m.Rows, divisor: integer.FromInt64(1)}
	for row := range slices.Chunk(values, m.Cols) {
		integers, content := fraction.Primitive(row)
		t.elems = append(t.elems, integers...)
		t.contents = append(t.contents, content)
		t.rest = append(t.rest, len(t.rest))
	}
	return t, api.OK
}

// at returns element i, j. Those below the diagonal follow from those above it,
// because the rows are symmetric but for their contents.
func (t *table) at(i, j int) integer.Int {
	if i <= j {
		return t.elems[i*t.size+j]
	}
	mirrored := t.elems[j*t.size+i]
	if mirrored.Sign() == 0 {
		return mirrored
	}
	ratio := t.contents[j].Div(t.contents[i])
	return fraction.FromInteger(mirrored).Mul(ratio).Num()
}

// set replaces element i, j, which is not below the diagonal.
func (t *table) set(i, j int, value integer.Int) {
	t.elems[i*t.size+j] = value
}

// value returns element i, j of the matrix that is left.
func (t *table) value(i, j int) fraction.Fraction {
	return fraction.Quotient(t.at(i, j), t.divisor).Mul(t.contents[i])
}

// sign returns the sign of element i, i of the matrix that is left.
func (t *table) sign(i int) int {
	return t.at(i, i).Sign() * t.divisor.Sign()
}

// partner returns the first column in which row i, whose element on the diagonal is
// 0, is not 0. It returns false if there is none.
func (t *table) partner(i int) (int, bool) {
	for _, j := range t.rest {
		if t.at(i, j).Sign() != 0 {
			return j, true
		}
	}
	return 0, false
}

// drop takes row and column p away.
func (t *table) drop(p int) {
	if place, found := slices.BinarySearch(t.rest, p); found {
		t.rest = slices.Delete(t.rest, place, place+1)
	}
}

// eliminate takes row and column p away and leaves the Schur complement of the
// pivot p, p, which is not 0.
func (t *table) eliminate(p int) {
	t.drop(p)
	pivot, source := t.at(p, p), make([]integer.Int, t.size)
	for _, j := range t.rest {
		source[j] = t.at(p, j)
	}
	for place, i := range t.rest {
		factor := t.at(i, p)
		if factor.Sign() == 0 && pivot.Compare(t.divisor) == 0 {
			continue
		}
		for _, j := range t.rest[place:] {
			product := t.at(i, j).Mul(pivot)
			t.set(i, j, product.Sub(source[j].Mul(factor)).DivExact(t.divisor))
		}
	}
	t.divisor = pivot
}

// reduce eliminates the rows in order, as long as no row shows that the matrix is
// not positive semidefinite: by a negative element on the diagonal, or by a zero
// there beside elements that are not 0. It reports whether no row is left;
// otherwise the first one that is left shows it.
func (t *table) reduce() bool {
steps:
	for len(t.rest) > 0 {
		k := t.rest[0]
		switch t.sign(k) {
		case -1:
			break steps
		case 0:
			if _, found := t.partner(k); found {
				break steps
			}
			t.drop(k)
		default:
			t.eliminate(k)
		}
	}
	return len(t.rest) == 0
}

// diagonalise eliminates rows with numbers below the limit, in an order that finds
// pivots, until the elements in these rows and columns are 0. It returns the
// numbers of positive and of negative pivots.
func (t *table) diagonalise(limit int) (int, int) {
	positive, negative := 0, 0
	for {
		p, found := t.findPivot(limit)
		switch {
		case !found:
			return positive, negative
		case t.sign(p) > 0:
			positive++
		default:
			negative++
		}
		t.eliminate(p)
	}
}

// findPivot returns the number of a row below the limit whose element on the
// diagonal is not 0. If all of them are 0, it makes one by joining two rows. It
// returns false if all elements in rows and columns below the limit are 0.
func (t *table) findPivot(limit int) (int, bool) {
	end, _ := slices.BinarySearch(t.rest, limit)
	for _, i := range t.rest[:end] {
		if t.sign(i) != 0 {
			return i, true
		}
	}
	for _, i := range t.rest[:end] {
		if j, found := t.partner(i); found && j < limit {
			t.join(i, j)
			return i, true
		}
	}
	return 0, false
}

// join adds a multiple of row j to row i, and that of column j to column i, so that
// the element i, i is no longer 0. This changes neither the inertia nor the Schur
// complement of rows that include both. The multiple is such that the elements
// stay integers. The elements i, i and j, j and, in all rows before i, those in
// the columns i and j are 0, and the element i, j is not.
func (t *table) join(i, j int) {
	multiple := t.contents[i].Div(t.contents[j]).Den()
	for _, x := range t.rest {
		if x >= i {
			t.set(i, x, t.at(i, x).Add(t.at(j, x).Mul(multiple)))
		}
	}
	// The element i, i is in the row and in the column.
	t.set(i, i, t.at(i, i).Add(t.at(i, i)))
}
