package space

import (
	"slices"

	"codewright/api"
	"codewright/matrix"
)

// Sum returns the space of all sums of a word of a and a word of b, or ErrMatch.
func Sum(f api.Field, a, b api.Matrix) (api.Matrix, api.Errno) {
	if e := checkPair(f, a, b); e != api.OK {
		return api.Matrix{}, e
	}
	return sum(f, a, b)
}

// sum returns the sum of two spaces of the same length.
func sum(f api.Field, a, b api.Matrix) (api.Matrix, api.Errno) {
	// The rows of a and of b may be more than a matrix has. Those of a and of what b has beyond a are independent, and so at most Cols.
	rest, e := span(f, b.Cols, reduce(f, a, b.Rows))
	if e != api.OK {
		return api.Matrix{}, e
	}
	return span(f, a.Cols, slices.Concat(a.Rows, rest.Rows))
}

// Meet returns the space of the words that are in a and in b, or ErrMatch.
func Meet(f api.Field, a, b api.Matrix) (api.Matrix, api.Errno) {
	if e := checkPair(f, a, b); e != api.OK {
		return api.Matrix{}, e
	}
	// A word is in both just if its product with the words of both duals, and so of their sum, is 0.
	c, e := matrix.Kernel(f, a)
	if e != api.OK {
		return api.Matrix{}, e
	}
	d, e := matrix.Kernel(f, b)
	if e != api.OK {
		return api.Matrix{}, e
	}
	both, e := sum(f, c, d)
	if e != api.OK {
		return api.Matrix{}, e
	}
	return matrix.Kernel(f, both)
}

// Dual returns the space of all words whose product with each word of a is 0.
func Dual(f api.Field, a api.Matrix) (api.Matrix, api.Errno) {
	if e := Check(f, a); e != api.OK {
		return api.Matrix{}, e
	}
	return matrix.Kernel(f, a)
}

// Has reports whether v is a word of a, or returns ErrShape, ErrElement.
func Has(f api.Field, a api.Matrix, v []int) (bool, api.Errno) {
	if e := checkWord(f, a, v); e != api.OK {
		return false, e
	}
	return areZero(reduce(f, a, [][]int{v})), api.OK
}

// Inside reports whether each word of a is a word of b, or returns ErrMatch.
func Inside(f api.Field, a, b api.Matrix) (bool, api.Errno) {
	if e := checkPair(f, a, b); e != api.OK {
		return false, e
	}
	return areZero(reduce(f, b, a.Rows)), api.OK
}

// Reduce returns the sum of v and a word of a that is 0 at the pivot columns of a, or ErrShape, ErrElement.
func Reduce(f api.Field, a api.Matrix, v []int) ([]int, api.Errno) {
	if e := checkWord(f, a, v); e != api.OK {
		return nil, e
	}
	return reduce(f, a, [][]int{v})[0], api.OK
}

// Coordinates returns the coefficients of v with respect to the rows of a, or ErrShape, ErrElement, ErrNone.
func Coordinates(f api.Field, a api.Matrix, v []int) ([]int, api.Errno) {
	in, e := Has(f, a, v)
	if e != api.OK {
		return nil, e
	}
	if !in {
		return nil, api.ErrNone
	}
	// Each row alone has a 1 at its pivot, so that the word has its coefficient there.
	list := pivots(a)
	for i, p := range list {
		list[i] = v[p]
	}
	return list, api.OK
}

// Quotient returns the space of the words of b reduced by a, or ErrMatch, ErrNone.
func Quotient(f api.Field, a, b api.Matrix) (api.Matrix, api.Errno) {
	in, e := Inside(f, a, b)
	if e != api.OK {
		return api.Matrix{}, e
	}
	if !in {
		return api.Matrix{}, api.ErrNone
	}
	return span(f, b.Cols, reduce(f, a, b.Rows))
}

// Supported returns the space of the words of a that are 0 at all positions that set does not name, or ErrRange.
func Supported(f api.Field, a api.Matrix, set []int) (api.Matrix, api.Errno) {
	if e := Check(f, a); e != api.OK {
		return api.Matrix{}, e
	}
	if !isSet(set, a.Cols) {
		return api.Matrix{}, api.ErrRange
	}
	// The coefficients of such a word are those with which the columns at the other positions sum up to 0.
	others, e := matrix.Columns(f, a, outside(set, a.Cols))
	if e != api.OK {
		return api.Matrix{}, e
	}
	equations, e := matrix.Transpose(f, others)
	if e != api.OK {
		return api.Matrix{}, e
	}
	coefficients, e := matrix.Kernel(f, equations)
	if e != api.OK {
		return api.Matrix{}, e
	}
	// A product of canonical matrices is canonical: at the pivot columns of the second it is the first.
	return matrix.Mul(f, coefficients, a)
}

// isSet reports whether set is a strictly ascending list of numbers from 0 to n-1.
func isSet(set []int, n int) bool {
	last := -1
	for _, i := range set {
		if i <= last || i >= n {
			return false
		}
		last = i
	}
	return true
}

// outside returns the numbers from 0 to n-1 that set, which is strictly ascending, does not name.
func outside(set []int, n int) []int {
	var list []int
	for i := range n {
		if _, is := slices.BinarySearch(set, i); !is {
			list = append(list, i)
		}
	}
	return list
}
