package classic

import (
	"slices"

	"codewright/api"
	"codewright/code"
)

// mostVariables is the greatest number of variables; 2 to its power is MaxN.
const mostVariables = 6

// binary returns the field of 2 elements.
func binary() api.Field {
	return api.Field{P: 2, M: 1}
}

// ReedMuller returns the binary Reed-Muller code of order r and length 2 to the power of m, or ErrRange.
func ReedMuller(r, m int) (api.Code, api.Errno) {
	list, e := Monomials(r, m)
	if e != api.OK {
		return api.Code{}, e
	}
	values := api.Matrix{Cols: 1 << m, Rows: make([][]int, len(list))}
	for i, vars := range list {
		values.Rows[i] = evaluated(m, vars)
	}
	return code.New(binary(), values)
}

// Monomials returns the products of at most r of m variables: each one as the ascending list of its variables, by size and then in lexicographic order; or ErrRange.
func Monomials(r, m int) ([][]int, api.Errno) {
	if m < 0 || m > mostVariables || r < -1 || r > m {
		return nil, api.ErrRange
	}
	var list [][]int
	// extend adds the monomials that continue vars by count variables from least on.
	var extend func(vars []int, least, count int)
	extend = func(vars []int, least, count int) {
		if count == 0 {
			list = append(list, slices.Clone(vars))
			return
		}
		for v := least; v < m; v++ {
			extend(append(vars, v), v+1, count-1)
		}
	}
	for degree := range r + 1 {
		extend(nil, 0, degree)
	}
	return list, api.OK
}

// Evaluate returns the values of a product of variables at all points of m bits: the bit of variable j at the point p is bit j of the number p; or ErrRange, ErrForm.
func Evaluate(m int, vars []int) ([]int, api.Errno) {
	if m < 0 || m > mostVariables {
		return nil, api.ErrRange
	}
	last := -1
	for _, v := range vars {
		if v <= last || v >= m {
			return nil, api.ErrForm
		}
		last = v
	}
	return evaluated(m, vars), api.OK
}

// evaluated returns the values of the monomial vars at all points of m bits.
func evaluated(m int, vars []int) []int {
	mask := 0
	for _, v := range vars {
		mask |= 1 << v
	}
	values := make([]int, 1<<m)
	for p := range values {
		if p&mask == mask {
			values[p] = 1
		}
	}
	return values
}
