package poly_test

import (
	"math"
	"slices"
	"testing"

	"codewright/api"
	"codewright/field"
	"codewright/poly"
)

// value returns the value of p at the element x by its definition.
func value(g *field.GF, p []int, x int) int {
	sum := 0
	for i := range p {
		power, _ := g.Pow(x, i)
		sum = g.Add(sum, g.Mul(at(g, p, i), power))
	}
	return sum
}

func TestEval(t *testing.T) {
	r := &random{state: 21}
	for _, g := range fields(t) {
		for range 20 {
			p := r.loose(g, 12)
			for range 10 {
				x := r.below(g.Order())
				if y := poly.Eval(g, p, x); y != value(g, p, x) {
					t.Errorf("P5.3: Eval(%v, %d) of %v is %d", p, x, g.Field(), y)
				}
			}
			for _, x := range append(strangers(g.Order()), 0) {
				if y := poly.Eval(g, p, x); y != at(g, p, 0) {
					t.Errorf("P5.3: Eval(%v, %d) of %v is %d", p, x, g.Field(), y)
				}
			}
		}
		for _, zero := range zeros(g) {
			if y := poly.Eval(g, zero, 1); y != 0 {
				t.Errorf("P5.3: Eval(%v, 1) of %v is %d", zero, g.Field(), y)
			}
		}
	}
}

func TestDerivative(t *testing.T) {
	r := &random{state: 22}
	for _, g := range fields(t) {
		for range 40 {
			p := r.loose(g, 20)
			var want []int
			for i := range len(p) {
				want = append(want, g.Sum(slices.Repeat([]int{at(g, p, i+1)}, i+1)...))
			}
			equal(t, g, poly.Derivative(g, p), canonical(g, want), "P5.3 Derivative", p)
		}
		for _, zero := range zeros(g) {
			equal(t, g, poly.Derivative(g, zero), nil, "P5.3 Derivative", zero)
			equal(t, g, poly.Derivative(g, append([]int{1}, zero...)), nil, "P5.3 Derivative", zero)
		}
		equal(t, g, poly.Derivative(g, monomial(g.Field().P)), nil, "P5.3 Derivative of x^P")
	}
}

func TestCompose(t *testing.T) {
	r := &random{state: 23}
	for _, g := range fields(t) {
		for range 20 {
			p, q := r.loose(g, 7), r.loose(g, 5)
			var want []int
			power := []int{1}
			for i := range p {
				want = plus(g, want, product(g, []int{at(g, p, i)}, power))
				power = product(g, power, q)
			}
			have, e := poly.Compose(g, p, q)
			right(t, g, have, e, want, "P5.3 Compose", p, q)
		}
	}
}

func TestComposeLimit(t *testing.T) {
	r := &random{state: 24}
	for _, g := range fields(t) {
		for _, d := range [][2]int{{16, 16}, {256, 1}, {1, 256}, {2, 128}, {85, 3}} {
			p, q := monomial(d[0]), append(monomial(d[1]), 0, -1)
			have, e := poly.Compose(g, append(p, g.Order()), q)
			right(t, g, have, e, monomial(d[0]*d[1]), "P5.3 Compose", d)
		}
		for _, d := range [][2]int{{16, 17}, {257, 1}, {1, 257}, {2, 129}, {86, 3}, {4000, 4000}} {
			have, e := poly.Compose(g, monomial(d[0]), monomial(d[1]))
			refused(t, g, have, e, api.ErrBig, "P5.3 Compose", d)
		}
		// A degree below 1 counts as 0.
		long := append(r.exact(g, 1000), 1)
		for _, zero := range zeros(g) {
			have, e := poly.Compose(g, long, zero)
			right(t, g, have, e, canonical(g, long[:1]), "P5.3 Compose", zero)
			have, e = poly.Compose(g, zero, long)
			right(t, g, have, e, nil, "P5.3 Compose", zero)
		}
		for range 10 {
			x := 1 + r.below(g.Order()-1)
			have, e := poly.Compose(g, long, []int{x, 0})
			right(t, g, have, e, canonical(g, []int{value(g, long, x)}), "P5.3 Compose", x)
			have, e = poly.Compose(g, []int{x, 0}, long)
			right(t, g, have, e, []int{x}, "P5.3 Compose", x)
		}
	}
}

func TestInterpolate(t *testing.T) {
	r := &random{state: 25}
	for _, g := range fields(t) {
		points := make([]int, g.Order())
		for i := range points {
			j := r.below(i + 1)
			points[i], points[j] = points[j], i
		}
		for _, n := range []int{0, 1, 2, 3, g.Order() / 2, g.Order() - 1, g.Order()} {
			xs := slices.Clone(points[:min(n, g.Order())])
			var ys []int
			for range xs {
				ys = append(ys, append(strangers(g.Order()), r.below(g.Order()), r.below(g.Order()))[r.below(14)])
			}
			if i := slices.Index(xs, 0); i >= 0 {
				xs[i] = append(strangers(g.Order()), 0)[r.below(13)]
			}
			p, e := poly.Interpolate(g, xs, ys)
			right(t, g, p, e, canonical(g, p), "P5.4 Interpolate", xs, ys)
			if len(p) > len(xs) {
				t.Errorf("P5.4: Interpolate(%v, %v) of %v is %v", xs, ys, g.Field(), p)
			}
			for i := range xs {
				if value(g, p, at(g, xs, i)) != at(g, ys, i) {
					t.Errorf("P5.4: Interpolate(%v, %v) of %v is %v", xs, ys, g.Field(), p)
				}
			}
		}
	}
}

func TestInterpolateRefuses(t *testing.T) {
	for _, g := range fields(t) {
		for _, l := range [][2][]int{{{0}, nil}, {nil, {0}}, {{1, 1}, {1}}, {{0, 0}, {1, 2, 3}}} {
			p, e := poly.Interpolate(g, l[0], l[1])
			refused(t, g, p, e, api.ErrShape, "P5.4 Interpolate", l)
		}
		for _, xs := range [][]int{{1, 1}, {0, 1, 0}, {0, -1}, {g.Order(), 0}, {-1, math.MaxInt}, {1, 0, 1}} {
			p, e := poly.Interpolate(g, xs, make([]int, len(xs)))
			refused(t, g, p, e, api.ErrTwice, "P5.4 Interpolate", xs)
		}
		many := make([]int, 100000)
		p, e := poly.Interpolate(g, many, many)
		refused(t, g, p, e, api.ErrTwice, "P5.4 Interpolate of many points")
	}
}

func TestReverse(t *testing.T) {
	r := &random{state: 26}
	for _, g := range fields(t) {
		for range 40 {
			p := r.loose(g, 9)
			n := max(0, degree(canonical(g, p))) + r.below(4)
			var want []int
			for i := range n + 1 {
				want = append(want, at(g, p, n-i))
			}
			have, e := poly.Reverse(g, p, n)
			right(t, g, have, e, canonical(g, want), "P5.4 Reverse", p, n)
		}
		for _, zero := range zeros(g) {
			for _, n := range []int{0, 1, api.MaxTerms} {
				have, e := poly.Reverse(g, zero, n)
				right(t, g, have, e, nil, "P5.4 Reverse", zero, n)
			}
			for _, n := range []int{-1, math.MinInt, api.MaxTerms + 1, math.MaxInt} {
				have, e := poly.Reverse(g, zero, n)
				refused(t, g, have, e, api.ErrRange, "P5.4 Reverse", zero, n)
			}
		}
		have, e := poly.Reverse(g, []int{1}, api.MaxTerms)
		right(t, g, have, e, monomial(api.MaxTerms), "P5.4 Reverse")
		have, e = poly.Reverse(g, monomial(api.MaxTerms), api.MaxTerms)
		right(t, g, have, e, []int{1}, "P5.4 Reverse")
		for n, p := range [][]int{{0, 1}, {1, 1, 1}, {0, 0, 0, 1}, {1, 0, 0, 0, 1, 0}} {
			have, e = poly.Reverse(g, p, n)
			refused(t, g, have, e, api.ErrRange, "P5.4 Reverse", p, n)
		}
		have, e = poly.Reverse(g, monomial(api.MaxTerms+1), api.MaxTerms+1)
		refused(t, g, have, e, api.ErrRange, "P5.4 Reverse")
	}
}

func TestFromRoots(t *testing.T) {
	r := &random{state: 27}
	for _, g := range fields(t) {
		equal(t, g, poly.FromRoots(g), []int{1}, "P5.4 FromRoots")
		for range 20 {
			roots := r.loose(g, 9)
			want := []int{1}
			for i := range roots {
				want = product(g, want, []int{g.Neg(at(g, roots, i)), 1})
			}
			equal(t, g, poly.FromRoots(g, roots...), want, "P5.4 FromRoots", roots)
		}
		// The product of x - r over all elements r is x^Q - x.
		want := monomial(g.Order())
		want[1] = g.Neg(1)
		equal(t, g, poly.FromRoots(g, slices.Collect(g.Elements())...), want, "P5.4 FromRoots")
	}
}

func TestRoots(t *testing.T) {
	r := &random{state: 28}
	for _, g := range fields(t) {
		for range 20 {
			p := r.loose(g, 9)
			if len(canonical(g, p)) == 0 {
				continue
			}
			p = product(g, p, poly.FromRoots(g, r.loose(g, 4)...))
			var want []int
			for x := range g.Order() {
				if value(g, p, x) == 0 {
					want = append(want, x)
				}
			}
			have, e := poly.Roots(g, append(p, 0, g.Order()))
			right(t, g, have, e, want, "P5.4 Roots", p)
		}
		have, e := poly.Roots(g, []int{g.Order() - 1, 0})
		right(t, g, have, e, nil, "P5.4 Roots of a constant")
		whole := poly.FromRoots(g, slices.Collect(g.Elements())...)
		have, e = poly.Roots(g, whole)
		right(t, g, have, e, slices.Collect(g.Elements()), "P5.4 Roots")
		for _, zero := range zeros(g) {
			have, e = poly.Roots(g, zero)
			refused(t, g, have, e, api.ErrZero, "P5.4 Roots", zero)
		}
	}
}

func TestExamples(t *testing.T) {
	two, three, five := standard(t, 2), standard(t, 3), standard(t, 5)
	equal(t, two, poly.Mul(two, []int{1, 1, 1}, []int{1, 1}), []int{1, 0, 0, 1}, "P5.1 Mul")
	quo, rem, e := poly.DivMod(five, []int{1, 2, 0, 1}, []int{3, 1})
	right(t, five, quo, e, []int{1, 2, 1}, "P5.2 DivMod")
	right(t, five, rem, e, []int{3}, "P5.2 DivMod")
	d, u, v := poly.Bezout(three, []int{1, 0, 1}, []int{1, 1})
	equal(t, three, d, []int{1}, "P5.2 Bezout")
	equal(t, three, u, []int{2}, "P5.2 Bezout")
	equal(t, three, v, []int{2, 1}, "P5.2 Bezout")
}
