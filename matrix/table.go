package matrix

import (
	"sosopt/fraction"
	"sosopt/integer"
)

// table is a matrix of integers, row by row: a matrix of fractions, each row of
// which is divided by its content, the greatest common divisor of its elements.
// A row of zeros has the content 0.
type table struct {
	rows, cols int
	elems      []integer.Int
	contents   []fraction.Fraction
	order      []int // the places that the rows had before they were exchanged
	exchanges  int
}

func newTable(g grid) *table {
	t := &table{rows: g.rows, cols: g.cols}
	for i := range g.rows {
		row, content := fraction.Primitive(g.row(i))
		t.elems = append(t.elems, row...)
		t.contents = append(t.contents, content)
		t.order = append(t.order, i)
	}
	return t
}

func (t *table) row(i int) []integer.Int {
	return t.elems[i*t.cols : (i+1)*t.cols]
}

func (t *table) at(i, j int) integer.Int {
	return t.elems[i*t.cols+j]
}

func (t *table) exchange(i, k int) {
	if i == k {
		return
	}
	upper, lower := t.row(i), t.row(k)
	for j := range upper {
		upper[j], lower[j] = lower[j], upper[j]
	}
	t.contents[i], t.contents[k] = t.contents[k], t.contents[i]
	t.order[i], t.order[k] = t.order[k], t.order[i]
	t.exchanges++
}

// dot returns the sum of the products of the elements in the same places.
func dot(a, b []integer.Int) integer.Int {
	var sum integer.Int
	for i, x := range a {
		sum = sum.Add(x.Mul(b[i]))
	}
	return sum
}
