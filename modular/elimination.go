package modular

import "sosopt/api"

// Rank returns the rank of a modulo p.
func Rank(a [][]int, p int) (int, api.Errno) {
	if errno := checkMatrix(a, isRectangle(a), p); errno != api.OK {
		return 0, errno
	}
	rank, _ := ring(p).eliminate(ring(p).residues(a), len(a[0]))
	return rank, api.OK
}

// Det returns the determinant of a modulo p.
func Det(a [][]int, p int) (int, api.Errno) {
	if errno := checkMatrix(a, isSquare(a), p); errno != api.OK {
		return 0, errno
	}
	_, det := ring(p).eliminate(ring(p).residues(a), len(a))
	return int(det), api.OK
}

// Solve returns the only vector x of residues for which a times x has the
// residues of b modulo p.
func Solve(a [][]int, b []int, p int) ([]int, api.Errno) {
	if errno := checkMatrix(a, isSquare(a) && len(b) == len(a), p); errno != api.OK {
		return nil, errno
	}
	m := ring(p)
	rows := m.residues(a)
	for i := range rows {
		rows[i] = append(rows[i], m.residue(b[i]))
	}
	if _, det := m.eliminate(rows, len(a)); det == 0 {
		return nil, api.ErrSingular
	}
	x := make([]int, len(rows))
	for i, row := range rows {
		x[i] = int(row[len(a)])
	}
	return x, api.OK
}

// checkMatrix returns the error of a matrix; hasShape says whether it has the
// dimensions that a function needs.
func checkMatrix(a [][]int, hasShape bool, p int) api.Errno {
	switch {
	case !IsPrime(p):
		return api.ErrInvalid
	case !hasShape:
		return api.ErrShape
	case len(a) > api.MaxDim || len(a[0]) > api.MaxDim:
		return api.ErrLimit
	}
	return api.OK
}

// isRectangle reports whether a has rows, and all of them have the same number of
// elements, which is not 0.
func isRectangle(a [][]int) bool {
	for _, row := range a {
		if len(row) == 0 || len(row) != len(a[0]) {
			return false
		}
	}
	return len(a) > 0
}

func isSquare(a [][]int) bool {
	return isRectangle(a) && len(a[0]) == len(a)
}

func (m ring) residues(a [][]int) [][]uint64 {
	rows := make([][]uint64, len(a))
	for i, row := range a {
		rows[i] = make([]uint64, len(row))
		for j, n := range row {
			rows[i][j] = m.residue(n)
		}
	}
	return rows
}

// eliminate brings the first n columns of the rows into reduced row echelon form.
// It returns their rank and, if there are n rows, their determinant.
func (m ring) eliminate(rows [][]uint64, n int) (int, uint64) {
	rank, det := 0, uint64(1)
columns:
	for col := range n {
		for i := rank; i < len(rows); i++ {
			pivot := rows[i][col]
			if pivot == 0 {
				continue
			}
			det = m.mul(det, pivot)
			if i != rank {
				rows[i], rows[rank] = rows[rank], rows[i]
				det = m.neg(det)
			}
			m.scaleRow(rows[rank][col:], m.inverse(pivot))
			m.clearColumn(rows, rank, col)
			rank++
			continue columns
		}
		det = 0
	}
	return rank, det
}

func (m ring) scaleRow(row []uint64, factor uint64) {
	for j, v := range row {
		row[j] = m.mul(v, factor)
	}
}

// clearColumn makes the elements of a column 0 except that of the pivot row,
// which is 1. The pivot row is 0 before this column.
func (m ring) clearColumn(rows [][]uint64, pivot, col int) {
	source := rows[pivot][col:]
	for i, row := range rows {
		if i == pivot || row[col] == 0 {
			continue
		}
		factor := m.neg(row[col])
		for j, v := range source {
			row[col+j] = (row[col+j] + factor*v) % uint64(m)
		}
	}
}
