package matrix

import (
	"slices"

	"codewright/api"
	"codewright/field"
)

// eliminate does Gauss-Jordan elimination on rows, which have cols entries each, and does every step to the rows beside too. It returns the pivot columns, and the determinant of the inverse of all steps together: the product of the entries that rows were divided by, with the sign of the exchanges.
func eliminate(g *field.GF, cols int, rows, beside [][]int) (pivots []int, det int) {
	step := func(do func(l [][]int)) {
		do(rows)
		do(beside)
	}
	det = 1
	for c := 0; c < cols && len(pivots) < len(rows); c++ {
		current := len(pivots)
		at := firstNonzero(rows, current, c)
		if at == len(rows) {
			continue
		}
		if at != current {
			step(func(l [][]int) { l[at], l[current] = l[current], l[at] })
			det = g.Neg(det)
		}
		det = g.Mul(det, rows[current][c])
		inverse, _ := g.Inv(rows[current][c])
		step(func(l [][]int) { l[current] = g.Scale(inverse, l[current]) })
		for i := range rows {
			if factor := g.Neg(rows[i][c]); i != current {
				step(func(l [][]int) { addMultiple(g, l[i], factor, l[current]) })
			}
		}
		pivots = append(pivots, c)
	}
	return pivots, det
}

// firstNonzero returns the index of the first row from start on with a nonzero entry in the column c, or the number of rows.
func firstNonzero(rows [][]int, start, c int) int {
	for start < len(rows) && rows[start][c] == 0 {
		start++
	}
	return start
}

// canonical returns the canonical matrix with the row space of m, and its pivot columns.
func canonical(g *field.GF, m api.Matrix) (api.Matrix, []int) {
	rows := clone(m.Rows)
	pivots, _ := eliminate(g, m.Cols, rows, make([][]int, len(rows)))
	return api.Matrix{Cols: m.Cols, Rows: rows[:len(pivots)]}, pivots
}

// Canonical returns the canonical matrix with the row space of m, and its pivot columns in ascending order.
func Canonical(f api.Field, m api.Matrix) (api.Matrix, []int, api.Errno) {
	g, e := open(f, m)
	if e != api.OK {
		return api.Matrix{}, nil, e
	}
	c, pivots := canonical(g, m)
	return c, pivots, api.OK
}

// Transform returns an invertible matrix t and the reduced row echelon form r of m with all its rows, so that t times m is r.
func Transform(f api.Field, m api.Matrix) (t, r api.Matrix, e api.Errno) {
	g, e := open(f, m)
	if e != api.OK {
		return api.Matrix{}, api.Matrix{}, e
	}
	t, r = identity(len(m.Rows)), api.Matrix{Cols: m.Cols, Rows: clone(m.Rows)}
	eliminate(g, m.Cols, r.Rows, t.Rows)
	return t, r, api.OK
}

// Rank returns the rank of m.
func Rank(f api.Field, m api.Matrix) (int, api.Errno) {
	_, pivots, e := Canonical(f, m)
	return len(pivots), e
}

// Kernel returns the canonical matrix of the space of all x whose product with each row of m is 0.
func Kernel(f api.Field, m api.Matrix) (api.Matrix, api.Errno) {
	g, e := open(f, m)
	if e != api.OK {
		return api.Matrix{}, e
	}
	c, pivots := canonical(g, m)
	basis := api.Matrix{Cols: m.Cols}
	for at := range m.Cols {
		if _, is := slices.BinarySearch(pivots, at); !is {
			basis.Rows = append(basis.Rows, solution(g, c, pivots, at))
		}
	}
	kernel, _ := canonical(g, basis)
	return kernel, api.OK
}

// solution returns the x whose product with each row of the canonical matrix c is 0 and which is 1 at the column at, and 0 at the other columns that are not pivot columns.
func solution(g *field.GF, c api.Matrix, pivots []int, at int) []int {
	x := make([]int, c.Cols)
	x[at] = 1
	for i, p := range pivots {
		x[p] = g.Neg(c.Rows[i][at])
	}
	return x
}

// Solve returns the x whose products with the rows of m are the entries of b and which is 0 at the columns that are not pivot columns, or ErrShape, ErrElement, ErrNone.
func Solve(f api.Field, m api.Matrix, b []int) ([]int, api.Errno) {
	g, e := open(f, m)
	if e != api.OK {
		return nil, e
	}
	if e := fits(g, b, m); e != api.OK {
		return nil, e
	}
	right := make([][]int, len(b))
	for i, y := range b {
		right[i] = []int{y}
	}
	pivots, _ := eliminate(g, m.Cols, clone(m.Rows), right)
	x := make([]int, m.Cols)
	for i, y := range right {
		switch {
		case i < len(pivots):
			x[pivots[i]] = y[0]
		case y[0] != 0:
			return nil, api.ErrNone
		}
	}
	return x, api.OK
}

// Inverse returns the inverse of m, or ErrShape, ErrRank.
func Inverse(f api.Field, m api.Matrix) (api.Matrix, api.Errno) {
	g, e := openSquare(f, m)
	if e != api.OK {
		return api.Matrix{}, e
	}
	t := identity(m.Cols)
	if pivots, _ := eliminate(g, m.Cols, clone(m.Rows), t.Rows); len(pivots) < m.Cols {
		return api.Matrix{}, api.ErrRank
	}
	return t, api.OK
}

// openSquare returns the field that f describes, or the error of open, or ErrShape if m does not have as many rows as columns.
func openSquare(f api.Field, m api.Matrix) (*field.GF, api.Errno) {
	g, e := open(f, m)
	if e == api.OK && len(m.Rows) != m.Cols {
		return nil, api.ErrShape
	}
	return g, e
}

// Det returns the determinant of m, or ErrShape.
func Det(f api.Field, m api.Matrix) (int, api.Errno) {
	g, e := openSquare(f, m)
	if e != api.OK {
		return 0, e
	}
	pivots, det := eliminate(g, m.Cols, clone(m.Rows), make([][]int, m.Cols))
	if len(pivots) < m.Cols {
		return 0, api.OK
	}
	return det, api.OK
}
