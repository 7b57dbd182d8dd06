package tower

import (
	"codewright/api"
	"codewright/field"
)

// IsBasis reports whether l is a basis of g over the subfield of order P^d.
func IsBasis(g *field.GF, l []int, d int) bool {
	_, e := Dual(g, l, d)
	return e == api.OK
}

// Coordinates returns the coordinates of x with respect to the basis l over the subfield of order P^d.
func Coordinates(g *field.GF, l []int, d, x int) ([]int, api.Errno) {
	dual, e := Dual(g, l, d)
	if e != api.OK {
		return nil, e
	}
	list := make([]int, len(dual))
	for i, y := range dual {
		list[i], _ = Trace(g, g.Mul(x, y), d)
	}
	return list, api.OK
}

// Dual returns the dual basis of l over the subfield of order P^d.
func Dual(g *field.GF, l []int, d int) ([]int, api.Errno) {
	if !isDegree(g, d) {
		return nil, api.ErrRange
	}
	if len(l) != g.Field().M/d {
		return nil, api.ErrRank
	}
	rows := equations(g, l, d)
	for c := range rows {
		if !eliminate(g, rows, c) {
			return nil, api.ErrRank
		}
	}
	dual := make([]int, len(rows))
	for i, row := range rows {
		dual[i] = row[len(rows)]
	}
	return dual, api.OK
}

// equations returns linear equations for the dual basis of l, their right sides last: the sum of the traces of l[i]*l[j], each times entry j of the dual basis, is l[i]. Their solution is unique just if l is a basis.
func equations(g *field.GF, l []int, d int) [][]int {
	rows := make([][]int, len(l))
	for i, x := range l {
		for _, y := range l {
			trace, _ := Trace(g, g.Mul(x, y), d)
			rows[i] = append(rows[i], trace)
		}
		rows[i] = append(rows[i], x)
	}
	return rows
}

// eliminate makes the entry of column c 1 in row c and 0 in all others, by steps that keep the solutions and the columns before; these were made so already. It reports false if all entries from row c on are 0.
func eliminate(g *field.GF, rows [][]int, c int) bool {
	at := c
	for at < len(rows) && rows[at][c] == 0 {
		at++
	}
	if at == len(rows) {
		return false
	}
	rows[c], rows[at] = rows[at], rows[c]
	inverse, _ := g.Inv(rows[c][c])
	rows[c] = g.Scale(inverse, rows[c])
	for i, row := range rows {
		if i != c {
			subtract(g, row, g.Scale(row[c], rows[c]))
		}
	}
	return true
}

// subtract takes the entries of other from those of row.
func subtract(g *field.GF, row, other []int) {
	for i, x := range other {
		row[i] = g.Sub(row[i], x)
	}
}

// Normal returns the least element whose conjugates over the subfield of order P^d are a basis.
func Normal(g *field.GF, d int) (int, api.Errno) {
	if !isDegree(g, d) {
		return 0, api.ErrRange
	}
	// There is such an element in every field, by the normal basis theorem.
	x := 1
	for !IsBasis(g, orbit(g, x, d), d) {
		x++
	}
	return x, api.OK
}
