package code

import (
	"iter"
	"slices"

	"codewright/api"
	"codewright/field"
	"codewright/number"
)

// Size returns the number of codewords, or ErrBig if there are more than MaxWords.
func Size(c api.Code) (int, api.Errno) {
	if e := Check(c); e != api.OK {
		return 0, e
	}
	return number.Exp(c.F.P, c.F.M*len(c.Gen), api.MaxWords)
}

// Words returns all codewords in lexicographic order, or ErrBig.
func Words(c api.Code) ([][]int, api.Errno) {
	size, e := Size(c)
	if e != api.OK {
		return nil, e
	}
	list := make([][]int, size)
	for i, w := range Walk(c) {
		list[i] = w
	}
	return list, api.OK
}

// Walk yields the index and the word of each codeword, in lexicographic order.
func Walk(c api.Code) iter.Seq2[int, []int] {
	if Check(c) != api.OK {
		return func(yield func(int, []int) bool) {}
	}
	g, _ := field.New(c.F)
	// The caller may change c before the iterator is used.
	n, rows := c.N, cloneRows(c.Gen)
	return func(yield func(int, []int) bool) {
		index := 0
		// extend yields the sums of sum and the combinations of the rows from at on, and reports whether the loop goes on.
		var extend func(sum []int, at int) bool
		extend = func(sum []int, at int) bool {
			if at == len(rows) {
				index++
				return yield(index-1, sum)
			}
			for x := range g.Elements() {
				if !extend(plus(g, sum, x, rows[at]), at+1) {
					return false
				}
			}
			return true
		}
		extend(make([]int, n), 0)
	}
}

// plus returns the sum of w and x times the row, in new memory.
func plus(g *field.GF, w []int, x int, row []int) []int {
	sum := slices.Clone(w)
	if x == 0 {
		return sum
	}
	for i, y := range row {
		sum[i] = g.Add(sum[i], g.Mul(x, y))
	}
	return sum
}
