package tower

import (
	"slices"

	"codewright/api"
	"codewright/field"
	"codewright/poly"
)

// Embed returns, for each element of the field that small describes, its image in g.
func Embed(small api.Field, g *field.GF) ([]int, api.Errno) {
	from, e := field.New(small)
	if e != api.OK {
		return nil, e
	}
	if small.P != g.Field().P || !isDegree(g, small.M) {
		return nil, api.ErrMatch
	}
	images, root := make([]int, from.Order()), leastRoot(small, g)
	for x := range from.Elements() {
		images[x] = poly.Eval(g, from.Digits(x), root)
	}
	return images, api.OK
}

// leastRoot returns the least element of g at which the polynomial of small is 0. For M = 1 there is no such polynomial, and it returns 0: an element has one digit only, so that no other power of the root is needed.
func leastRoot(small api.Field, g *field.GF) int {
	if small.M == 1 {
		return 0
	}
	roots, _ := poly.Roots(g, append(slices.Clone(small.Mod), 1))
	return roots[0]
}
