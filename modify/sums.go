package modify

import (
	"slices"

	"codewright/api"
	"codewright/code"
	"codewright/field"
)

// Extend returns the code of the words of c, each continued by the element that makes the sum of its entries zero, or ErrLength.
func Extend(c api.Code) (api.Code, api.Errno) {
	if e := code.Check(c); e != api.OK {
		return api.Code{}, e
	}
	if c.N == api.MaxN {
		return api.Code{}, api.ErrLength
	}
	g, e := field.New(c.F)
	if e != api.OK {
		return api.Code{}, e
	}
	longer := api.Matrix{Cols: c.N + 1, Rows: make([][]int, len(c.Gen))}
	for i, row := range c.Gen {
		longer.Rows[i] = slices.Concat(row, []int{g.Neg(g.Sum(row...))})
	}
	return code.New(c.F, longer)
}

// Expurgate returns the code of the words of c whose entries have the sum zero.
func Expurgate(c api.Code) (api.Code, api.Errno) {
	repeated, e := ones(c)
	if e != api.OK {
		return api.Code{}, e
	}
	// The sum of the entries of a word is its product with the word of ones.
	balanced, e := code.Dual(repeated)
	if e != api.OK {
		return api.Code{}, e
	}
	return code.Meet(c, balanced)
}

// Augment returns the code that c and the word of ones generate.
func Augment(c api.Code) (api.Code, api.Errno) {
	repeated, e := ones(c)
	if e != api.OK {
		return api.Code{}, e
	}
	return code.Sum(c, repeated)
}

// ones returns the code of the length and over the field of c that the word of ones generates, or the error of code.Check.
func ones(c api.Code) (api.Code, api.Errno) {
	if e := code.Check(c); e != api.OK {
		return api.Code{}, e
	}
	return code.New(c.F, api.Matrix{Cols: c.N, Rows: [][]int{slices.Repeat([]int{1}, c.N)}})
}
