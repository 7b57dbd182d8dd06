package combine

import (
	"slices"

	"codewright/api"
	"codewright/code"
	"codewright/field"
)

// ConstructionX returns the code of the words (x, t) with x in a, where t is the word of tail that belongs to the coset of x modulo b, or ErrMatch, ErrLength.
func ConstructionX(a, b, tail api.Code) (api.Code, api.Errno) {
	if e := check(a, b, tail); e != api.OK {
		return api.Code{}, e
	}
	// Inside is ErrMatch unless a and b have the same field and the same length.
	in, e := code.Inside(b, a)
	if e != api.OK {
		return api.Code{}, e
	}
	if !in || !field.Same(a.F, tail.F) || len(tail.Gen) != len(a.Gen)-len(b.Gen) {
		return api.Code{}, api.ErrMatch
	}
	if a.N+tail.N > api.MaxN {
		return api.Code{}, api.ErrLength
	}
	beyond, e := rowsBeyond(a, b)
	if e != api.OK {
		return api.Code{}, e
	}
	// The words of b and those rows together generate a. Each of those rows is 0 at all pivots of a but its own, so that it is the y of the chapter, and its message has a single 1.
	var rows [][]int
	for _, w := range b.Gen {
		rows = append(rows, slices.Concat(w, make([]int, tail.N)))
	}
	for i, w := range beyond {
		rows = append(rows, slices.Concat(w, tail.Gen[i]))
	}
	return generated(a.F, a.N+tail.N, rows)
}

// rowsBeyond returns the rows of the generator matrix of a whose pivots are not pivots of b, a code inside a; there are as many as a has dimensions beyond b, since each pivot of b is one of a.
func rowsBeyond(a, b api.Code) ([][]int, api.Errno) {
	pivots, e := code.Pivots(a)
	if e != api.OK {
		return nil, e
	}
	inner, e := code.Pivots(b)
	if e != api.OK {
		return nil, e
	}
	var rows [][]int
	for i, p := range pivots {
		if !slices.Contains(inner, p) {
			rows = append(rows, a.Gen[i])
		}
	}
	return rows, api.OK
}
