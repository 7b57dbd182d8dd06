package combine

import (
	"codewright/api"
	"codewright/field"
	"codewright/matrix"
	"codewright/tower"
)

// Concatenate returns the concatenated code: each entry of a word of outer is replaced by the word of inner whose message are its coordinates in the basis; or ErrMatch, ErrRank, ErrLength.
func Concatenate(outer, inner api.Code, basis []int) (api.Code, api.Errno) {
	if e := check(outer, inner); e != api.OK {
		return api.Code{}, e
	}
	g, e := field.New(outer.F)
	if e != api.OK {
		return api.Code{}, e
	}
	images, e := tower.Embed(inner.F, g)
	if e != api.OK {
		return api.Code{}, e
	}
	if len(inner.Gen) != outer.F.M/inner.F.M {
		return api.Code{}, api.ErrMatch
	}
	dual, e := tower.Dual(g, basis, inner.F.M)
	if e != api.OK {
		return api.Code{}, e
	}
	if outer.N*inner.N > api.MaxN {
		return api.Code{}, api.ErrLength
	}
	parts, e := replacements(g, images, inner, dual)
	if e != api.OK {
		return api.Code{}, e
	}
	// The multiples by the entries of the basis generate all multiples over the smaller field.
	var rows [][]int
	for _, w := range outer.Gen {
		for _, x := range basis {
			rows = append(rows, replaced(parts, g.Scale(x, w)))
		}
	}
	return generated(inner.F, outer.N*inner.N, rows)
}

// replacements returns, for each element x of g, the word of inner whose message are the coordinates of x in the basis of which dual is the dual basis; images has the images of the elements of the field of inner.
func replacements(g *field.GF, images []int, inner api.Code, dual []int) ([][]int, api.Errno) {
	origins := make([]int, g.Order())
	for y, x := range images {
		origins[x] = y
	}
	messages := api.Matrix{Cols: len(dual), Rows: make([][]int, g.Order())}
	for x := range messages.Rows {
		// tower.Coordinates would compute the dual basis anew for each element.
		for _, y := range dual {
			coordinate, e := tower.Trace(g, g.Mul(x, y), inner.F.M)
			if e != api.OK {
				return nil, e
			}
			messages.Rows[x] = append(messages.Rows[x], origins[coordinate])
		}
	}
	words, e := matrix.Mul(inner.F, messages, api.Matrix{Cols: inner.N, Rows: inner.Gen})
	return words.Rows, e
}

// replaced returns the parts that the entries of w name, one behind the other.
func replaced(parts [][]int, w []int) []int {
	var list []int
	for _, x := range w {
		list = append(list, parts[x]...)
	}
	return list
}
