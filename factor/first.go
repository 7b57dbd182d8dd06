package factor

import (
	"codewright/api"
	"codewright/field"
)

// First returns the least monic irreducible polynomial of degree n.
func First(g *field.GF, n int) ([]int, api.Errno) {
	if n < 1 || n > api.MaxFirst {
		return nil, api.ErrRange
	}
	p := append(make([]int, n), 1)
	search(g, p, n-1, symmetries(g))
	return p, api.OK
}

// symmetry is a map of the monic polynomials of any degree n onto themselves that keeps irreducible ones irreducible: their coefficients are raised to the power of exp, which is a power of the characteristic; then unit * x is put in for x, and the polynomial is divided by unit^n.
type symmetry struct{ unit, exp int }

// symmetries returns all symmetries.
func symmetries(g *field.GF) []symmetry {
	var list []symmetry
	for exp := 1; exp < g.Order(); exp *= g.Field().P {
		for unit := 1; unit < g.Order(); unit++ {
			list = append(list, symmetry{unit, exp})
		}
	}
	return list
}

// search looks for the least irreducible polynomial that has the coefficients of p above the one at i, all of which are kept by the symmetries of list. It reports whether there is one, and leaves it in p.
//
// There may be millions of reducible polynomials below the first irreducible one. So those are left out that a symmetry maps to lesser ones: if they were irreducible, so would be these.
func search(g *field.GF, p []int, i int, list []symmetry) bool {
	if i < 0 {
		ok, _ := Irreducible(g, p)
		return ok
	}
	for c := range g.Elements() {
		p[i] = c
		if kept, ok := keeping(g, p, i, list); ok && search(g, p, i-1, kept) {
			return true
		}
	}
	return false
}

// keeping returns those symmetries of list that keep the coefficient of p at i, or false if one of them makes it less.
func keeping(g *field.GF, p []int, i int, list []symmetry) ([]symmetry, bool) {
	var kept []symmetry
	for _, s := range list {
		raised, _ := g.Pow(p[i], s.exp)
		factor, _ := g.Pow(s.unit, i-(len(p)-1))
		image := g.Mul(raised, factor)
		if image < p[i] {
			return nil, false
		}
		if image == p[i] {
			kept = append(kept, s)
		}
	}
	return kept, true
}
