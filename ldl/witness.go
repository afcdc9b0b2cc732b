package ldl

import (
	"sosopt/api"
	"sosopt/integer"
)

// Witness returns some vector v with v' m v < 0, and true, if m is not positive
// semidefinite. The elements of v are integers without a common divisor.
func Witness(m api.Matrix) ([]string, bool, api.Errno) {
	t, errno := read(m)
	if errno != api.OK || t.reduce() {
		return nil, false, errno
	}
	return shorten(t.extend(t.obstacle())), true, api.OK
}

// obstacle returns a vector of integers that has a negative value in the matrix
// that reduce has left. It is 0 in the rows that were eliminated.
func (t *table) obstacle() []integer.Int {
	w := make([]integer.Int, t.size)
	k := t.rest[0]
	w[k] = integer.FromInt64(1)
	if t.sign(k) < 0 {
		return w
	}
	// The element k, k is 0. So the value of 1 and -ratio in the places k and j is
	// ratio * (ratio * (j, j) - 2 * (k, j)), where ratio has the sign of k, j.
	j, _ := t.partner(k)
	ratio := t.value(k, j)
	if t.sign(j) > 0 {
		ratio = ratio.Div(t.value(j, j))
	}
	w[k], w[j] = ratio.Den(), ratio.Num().Neg()
	return w
}

// extend returns the vector v that is a positive multiple of w in the rows that are
// left, and for which m v is 0 in those that were eliminated, so that v' m v has
// the sign of the value of w. By Cramer's rule, the multiple by the last pivot
// consists of integers.
func (t *table) extend(w []integer.Int) []integer.Int {
	v := make([]integer.Int, t.size)
	for i, x := range w {
		v[i] = x.Mul(t.divisor)
	}
	for p := t.rest[0] - 1; p >= 0; p-- {
		pivot := t.at(p, p)
		if pivot.Sign() == 0 {
			continue
		}
		var sum integer.Int
		for j := p + 1; j < t.size; j++ {
			sum = sum.Sub(t.at(p, j).Mul(v[j]))
		}
		v[p] = sum.DivExact(pivot)
	}
	return v
}

// shorten returns the elements of v, which are not all 0, divided by their greatest
// common divisor.
func shorten(v []integer.Int) []string {
	var common integer.Int
	for _, x := range v {
		common = common.GCD(x)
	}
	texts := make([]string, len(v))
	for i, x := range v {
		texts[i] = x.DivExact(common).String()
	}
	return texts
}
