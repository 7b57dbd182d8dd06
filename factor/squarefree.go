package factor

import (
	"cmp"
	"slices"

	"codewright/api"
	"codewright/field"
	"codewright/poly"
)

// Squarefree returns the squarefree decomposition of a: squarefree monic polynomials of degree at least 1, pairwise coprime, with ascending multiplicities.
func Squarefree(g *field.GF, a []int) ([]api.Factor, api.Errno) {
	if e := check(g, a); e != api.OK {
		return nil, e
	}
	monic, e := poly.Monic(g, a)
	parts := decompose(g, monic, 1)
	slices.SortFunc(parts, func(x, y api.Factor) int { return cmp.Compare(x.Mult, y.Mult) })
	return parts, e
}

// decompose returns the squarefree decomposition of the monic polynomial a, in any order, with the multiplicities that a to the power of exp has.
func decompose(g *field.GF, a []int, exp int) []api.Factor {
	var parts []api.Factor
	rest := poly.Gcd(g, a, poly.Derivative(g, a))
	// A factor whose multiplicity is a multiple of the characteristic is as often in the derivative as in a. The others are in it once less.
	simple := quotient(g, a, rest)
	for mult := 1; poly.Degree(g, simple) > 0; mult++ {
		more := poly.Gcd(g, simple, rest)
		if len(more) < len(simple) {
			parts = append(parts, api.Factor{Poly: quotient(g, simple, more), Mult: mult * exp})
		}
		simple, rest = more, quotient(g, rest, more)
	}
	if poly.Degree(g, rest) > 0 {
		parts = append(parts, decompose(g, root(g, rest), exp*g.Field().P)...)
	}
	return parts
}

// quotient returns a divided by b, which divides it and is not zero.
func quotient(g *field.GF, a, b []int) []int {
	quo, _, _ := poly.DivMod(g, a, b)
	return quo
}

// root returns the polynomial whose power with the characteristic as exponent is a; there is one.
func root(g *field.GF, a []int) []int {
	characteristic := g.Field().P
	var out []int
	for i := 0; i < len(a); i += characteristic {
		// The power with the exponent Q of an element is the element itself.
		c, _ := g.Pow(a[i], g.Order()/characteristic)
		out = append(out, c)
	}
	return out
}
