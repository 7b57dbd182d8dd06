package grs

import (
	"slices"

	"codewright/api"
)

// Dual returns the description of the dual code.
func Dual(s api.GRS) (api.GRS, api.Errno) {
	g, e := open(s)
	if e != api.OK {
		return api.GRS{}, e
	}
	dual := copied(s)
	dual.K = len(s.Points) - s.K
	for i, x := range s.Points {
		product := s.Mults[i]
		for j, y := range s.Points {
			if j != i {
				product = g.Mul(product, g.Sub(x, y))
			}
		}
		// No multiplier and no difference of two points is 0.
		dual.Mults[i], _ = g.Inv(product)
	}
	return dual, api.OK
}

// Puncture returns the description without the points at the indices at, or ErrRange, ErrTwice, ErrLength.
func Puncture(s api.GRS, at ...int) (api.GRS, api.Errno) {
	if e := Check(s); e != api.OK {
		return api.GRS{}, e
	}
	n := len(s.Points)
	switch {
	case slices.ContainsFunc(at, func(i int) bool { return i < 0 || i >= n }):
		return api.GRS{}, api.ErrRange
	case hasTwice(at):
		return api.GRS{}, api.ErrTwice
	case len(at) == n:
		return api.GRS{}, api.ErrLength
	}
	out := copied(s)
	out.Points, out.Mults = without(s.Points, at), without(s.Mults, at)
	out.K = min(s.K, len(out.Points))
	return out, api.OK
}

// without returns the entries of l whose indices are not in at.
func without(l, at []int) []int {
	var rest []int
	for i, x := range l {
		if !slices.Contains(at, i) {
			rest = append(rest, x)
		}
	}
	return rest
}

// Affine returns the description with the points a*x + b instead of x, or ErrElement, ErrZero.
func Affine(s api.GRS, a, b int) (api.GRS, api.Errno) {
	g, e := open(s)
	if e != api.OK {
		return api.GRS{}, e
	}
	if !g.Is(a) || !g.Is(b) {
		return api.GRS{}, api.ErrElement
	}
	if a == 0 {
		return api.GRS{}, api.ErrZero
	}
	out := copied(s)
	for i, x := range s.Points {
		out.Points[i] = g.Add(g.Mul(a, x), b)
	}
	return out, api.OK
}
