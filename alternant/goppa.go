package alternant

import (
	"slices"

	"codewright/api"
	"codewright/field"
	"codewright/grs"
	"codewright/poly"
)

// Check returns OK if p describes a Goppa code; otherwise ErrField, ErrMatch, ErrLength, ErrElement, ErrTwice, ErrForm or ErrZero.
func Check(p api.Goppa) api.Errno {
	_, e := open(p)
	return e
}

// open returns the big field of p, or the error of Check.
func open(p api.Goppa) (*field.GF, api.Errno) {
	if e := field.Check(p.Small); e != api.OK {
		return nil, e
	}
	g, e := field.New(p.Big)
	if e != api.OK {
		return nil, e
	}
	n := len(p.Points)
	switch {
	case !fits(p.Small, p.Big):
		e = api.ErrMatch
	case n < 1 || n > api.MaxN:
		e = api.ErrLength
	case hasStranger(g, p.Points) || hasStranger(g, p.Poly):
		e = api.ErrElement
	case hasTwice(p.Points):
		e = api.ErrTwice
	case poly.Degree(g, p.Poly) != degree(p) || degree(p) < 1 || degree(p) > api.MaxN:
		e = api.ErrForm
	case slices.Contains(values(g, p), 0):
		e = api.ErrZero
	}
	if e != api.OK {
		return nil, e
	}
	return g, api.OK
}

// degree returns the degree of Poly, if it is canonical.
func degree(p api.Goppa) int {
	return len(p.Poly) - 1
}

// hasStranger reports whether an entry of l is no element.
func hasStranger(g *field.GF, l []int) bool {
	return slices.ContainsFunc(l, func(x int) bool { return !g.Is(x) })
}

// hasTwice reports whether two entries of l are equal.
func hasTwice(l []int) bool {
	sorted := slices.Sorted(slices.Values(l))
	return len(slices.Compact(sorted)) < len(l)
}

// values returns the values of Poly at the points.
func values(g *field.GF, p api.Goppa) []int {
	list := make([]int, len(p.Points))
	for i, x := range p.Points {
		list[i] = poly.Eval(g, p.Poly, x)
	}
	return list
}

// inverses returns the inverses of the values of Poly at the points, none of which is 0.
func inverses(g *field.GF, p api.Goppa) []int {
	list := values(g, p)
	for i, x := range list {
		list[i], _ = g.Inv(x)
	}
	return list
}

// Parity returns the matrix over Big with the entry Points[j]^i / Poly(Points[j]) at row i and column j.
func Parity(p api.Goppa) (api.Matrix, api.Errno) {
	g, e := open(p)
	if e != api.OK {
		return api.Matrix{}, e
	}
	m := api.Matrix{Cols: len(p.Points)}
	row := inverses(g, p)
	for range degree(p) {
		m.Rows = append(m.Rows, row)
		next := make([]int, m.Cols)
		for j, x := range p.Points {
			next[j] = g.Mul(row[j], x)
		}
		row = next
	}
	return m, api.OK
}

// checks returns the description of the code that the rows of Parity generate, with the points in the memory of p. The rows beyond the first n are combinations of these.
func checks(g *field.GF, p api.Goppa) api.GRS {
	return api.GRS{F: g.Field(), K: min(degree(p), len(p.Points)), Points: p.Points, Mults: inverses(g, p)}
}

// GoppaCode returns the code that p describes.
func GoppaCode(p api.Goppa) (api.Code, api.Errno) {
	g, e := open(p)
	if e != api.OK {
		return api.Code{}, e
	}
	return orthogonal(p.Small, checks(g, p))
}

// Alternant returns a description whose alternant code over Small is the Goppa code.
func Alternant(p api.Goppa) (api.GRS, api.Errno) {
	g, e := open(p)
	if e != api.OK {
		return api.GRS{}, e
	}
	return grs.Dual(checks(g, p))
}

// Square returns p with the square of Poly, or ErrForm.
func Square(p api.Goppa) (api.Goppa, api.Errno) {
	g, e := open(p)
	if e != api.OK {
		return api.Goppa{}, e
	}
	if 2*degree(p) > api.MaxN {
		return api.Goppa{}, api.ErrForm
	}
	p.Small.Mod = slices.Clone(p.Small.Mod)
	p.Big = g.Field()
	p.Poly = poly.Mul(g, p.Poly, p.Poly)
	p.Points = slices.Clone(p.Points)
	return p, api.OK
}

// GoppaDesigned returns the designed distance of the Goppa code.
func GoppaDesigned(p api.Goppa) (int, api.Errno) {
	g, e := open(p)
	if e != api.OK {
		return 0, e
	}
	t := degree(p)
	if p.Small.P == 2 && p.Small.M == 1 && isSquarefree(g, p.Poly) {
		return 2*t + 1, api.OK
	}
	return t + 1, api.OK
}

// isSquarefree reports whether no square of a polynomial of a degree above 0 divides q, which is not 0: just if q and its derivative have no common factor, since g is finite.
func isSquarefree(g *field.GF, q []int) bool {
	return poly.Degree(g, poly.Gcd(g, q, poly.Derivative(g, q))) == 0
}
