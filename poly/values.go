package poly

import (
	"slices"

	"codewright/api"
	"codewright/field"
)

// Eval returns the value of p at x.
func Eval(g *field.GF, p []int, x int) int {
	value := 0
	for _, c := range slices.Backward(p) {
		value = g.Add(g.Mul(value, x), c)
	}
	return value
}

// Derivative returns the formal derivative of p.
func Derivative(g *field.GF, p []int) []int {
	characteristic := g.Field().P
	out := make([]int, max(0, len(p)-1))
	for i := range out {
		// An int below the characteristic is, as an element, the sum of so many ones.
		out[i] = g.Mul((i+1)%characteristic, p[i+1])
	}
	return trim(g, out)
}

// Compose returns p(q(x)).
func Compose(g *field.GF, p, q []int) ([]int, api.Errno) {
	p, q = Canon(g, p), Canon(g, q)
	if max(0, len(p)-1)*max(0, len(q)-1) > api.MaxDegree {
		return nil, api.ErrBig
	}
	var value []int
	for _, c := range slices.Backward(p) {
		value = Add(g, Mul(g, value, q), []int{c})
	}
	return value, api.OK
}

// Interpolate returns the polynomial of degree below len(xs) with the value ys[i] at xs[i].
func Interpolate(g *field.GF, xs, ys []int) ([]int, api.Errno) {
	if len(xs) != len(ys) {
		return nil, api.ErrShape
	}
	// p has the right values at the points up to now, and vanishing is 0 there and nowhere else.
	var p []int
	vanishing := []int{1}
	for i, x := range xs {
		factor, e := g.Div(g.Sub(ys[i], Eval(g, p, x)), Eval(g, vanishing, x))
		if e != api.OK {
			return nil, api.ErrTwice
		}
		p = Add(g, p, Scale(g, factor, vanishing))
		vanishing = Mul(g, vanishing, FromRoots(g, x))
	}
	return p, api.OK
}

// Reverse returns x to the power of n times p(1/x).
func Reverse(g *field.GF, p []int, n int) ([]int, api.Errno) {
	if n < Degree(g, p) || n < 0 || n > api.MaxTerms {
		return nil, api.ErrRange
	}
	out := make([]int, n+1)
	for i := range out {
		out[i] = coefficient(g, p, n-i)
	}
	return trim(g, out), api.OK
}

// FromRoots returns the product of x - r for all r of roots.
func FromRoots(g *field.GF, roots ...int) []int {
	product := []int{1}
	for _, r := range roots {
		product = times(g, product, []int{g.Neg(r), 1})
	}
	return product
}

// Roots returns the elements at which p is 0, in ascending order.
func Roots(g *field.GF, p []int) ([]int, api.Errno) {
	p = Canon(g, p)
	if len(p) == 0 {
		return nil, api.ErrZero
	}
	var roots []int
	for x := range g.Elements() {
		if Eval(g, p, x) == 0 {
			roots = append(roots, x)
		}
	}
	return roots, api.OK
}
