package poly_test

import (
	"math"
	"slices"
	"testing"

	"codewright/api"
	"codewright/field"
	"codewright/poly"
)

func TestCanonAndDegree(t *testing.T) {
	r := &random{state: 1}
	for _, g := range fields(t) {
		for range 60 {
			p := r.loose(g, 9)
			want := canonical(g, p)
			equal(t, g, poly.Canon(g, p), want, "P5.1 Canon", p)
			if d := poly.Degree(g, p); d != degree(want) {
				t.Errorf("P5.1: Degree(%v) of %v is %d", p, g.Field(), d)
			}
		}
		for _, p := range zeros(g) {
			equal(t, g, poly.Canon(g, p), nil, "P5.1 Canon", p)
			if d := poly.Degree(g, p); d != -1 {
				t.Errorf("P5.1: Degree(%v) of %v is %d", p, g.Field(), d)
			}
		}
		for _, x := range strangers(g.Order()) {
			equal(t, g, poly.Canon(g, []int{x, 1, x}), []int{0, 1}, "P5.1 Canon", x)
		}
	}
}

func TestSumsAndDifferences(t *testing.T) {
	r := &random{state: 2}
	for _, g := range fields(t) {
		for range 60 {
			p, q := r.loose(g, 7), r.loose(g, 7)
			sum := plus(g, p, q)
			equal(t, g, poly.Add(g, p, q), sum, "P5.1 Add", p, q)
			equal(t, g, poly.Sub(g, sum, p), canonical(g, q), "P5.1 Sub", sum, p)
			equal(t, g, poly.Sub(g, p, p), nil, "P5.1 Sub", p, p)
			equal(t, g, plus(g, poly.Sub(g, p, q), q), canonical(g, p), "P5.1 Sub", p, q)
		}
		for _, zero := range zeros(g) {
			p := r.loose(g, 5)
			equal(t, g, poly.Add(g, p, zero), canonical(g, p), "P5.1 Add", p, zero)
			equal(t, g, poly.Sub(g, p, zero), canonical(g, p), "P5.1 Sub", p, zero)
			equal(t, g, plus(g, poly.Sub(g, zero, p), p), nil, "P5.1 Sub", zero, p)
		}
	}
}

func TestProducts(t *testing.T) {
	r := &random{state: 3}
	for _, g := range fields(t) {
		equal(t, g, poly.Mul(g), []int{1}, "P5.1 Mul")
		for range 60 {
			p, q, s := r.loose(g, 9), r.loose(g, 9), r.loose(g, 5)
			want := product(g, p, q)
			equal(t, g, poly.Mul(g, p), canonical(g, p), "P5.1 Mul", p)
			equal(t, g, poly.Mul(g, p, q), want, "P5.1 Mul", p, q)
			equal(t, g, poly.Mul(g, p, q, s), product(g, want, s), "P5.1 Mul", p, q, s)
		}
		for _, zero := range zeros(g) {
			equal(t, g, poly.Mul(g, zero), nil, "P5.1 Mul", zero)
			equal(t, g, poly.Mul(g, []int{1, 1}, zero, []int{1}), nil, "P5.1 Mul", zero)
		}
		var powers [][]int
		want := []int{1}
		for range 20 {
			powers = append(powers, []int{1, 1, 0})
			want = product(g, want, []int{1, 1})
		}
		equal(t, g, poly.Mul(g, powers...), want, "P5.1 Mul of many")
	}
}

func TestScale(t *testing.T) {
	r := &random{state: 4}
	for _, g := range fields(t) {
		for range 40 {
			a, p := r.below(g.Order()), r.loose(g, 9)
			equal(t, g, poly.Scale(g, a, p), product(g, []int{a}, p), "P5.1 Scale", a, p)
		}
		for _, a := range append(strangers(g.Order()), 0) {
			equal(t, g, poly.Scale(g, a, []int{1, 1}), nil, "P5.1 Scale", a)
		}
		for _, zero := range zeros(g) {
			equal(t, g, poly.Scale(g, 1, zero), nil, "P5.1 Scale", zero)
		}
	}
}

func TestShift(t *testing.T) {
	r := &random{state: 5}
	for _, g := range fields(t) {
		for _, n := range []int{0, 1, 2, 17, api.MaxTerms - 1, api.MaxTerms} {
			p := r.loose(g, 9)
			want := canonical(g, append(make([]int, n), p...))
			have, e := poly.Shift(g, p, n)
			right(t, g, have, e, want, "P5.1 Shift", p, n)
		}
		for _, n := range []int{-1, -2, api.MaxTerms + 1, math.MaxInt, math.MinInt} {
			for _, p := range [][]int{{1}, nil} {
				have, e := poly.Shift(g, p, n)
				refused(t, g, have, e, api.ErrRange, "P5.1 Shift", p, n)
			}
		}
		for _, zero := range zeros(g) {
			have, e := poly.Shift(g, zero, 3)
			right(t, g, have, e, nil, "P5.1 Shift", zero)
		}
	}
}

func TestMonic(t *testing.T) {
	r := &random{state: 6}
	for _, g := range fields(t) {
		for range 40 {
			p := append(r.loose(g, 6), 1+r.below(g.Order()-1), 0, -1)
			top := degree(canonical(g, p))
			have, e := poly.Monic(g, p)
			if e != api.OK || degree(have) != top || have[top] != 1 {
				t.Fatalf("P5.1: Monic(%v) of %v: %v and error %d", p, g.Field(), have, e)
			}
			equal(t, g, product(g, []int{p[top]}, have), canonical(g, p), "P5.1 Monic", p)
		}
		for _, zero := range zeros(g) {
			have, e := poly.Monic(g, zero)
			refused(t, g, have, e, api.ErrZero, "P5.1 Monic", zero)
		}
	}
}

// results returns all polynomials that the functions return for p and q, which are not zero.
func results(g *field.GF, p, q []int) [][]int {
	var list [][]int
	add := func(l ...[]int) { list = append(list, l...) }
	checked := func(p []int, _ api.Errno) { add(p) }
	add(poly.Canon(g, p), poly.Add(g, p, q), poly.Add(g, p, nil), poly.Sub(g, p, q), poly.Sub(g, p, nil), poly.Mul(g), poly.Mul(g, p), poly.Mul(g, []int{1}, p), poly.Mul(g, p, q), poly.Scale(g, 1, p))
	checked(poly.Shift(g, p, 0))
	checked(poly.Monic(g, p))
	quo, rem, _ := poly.DivMod(g, p, q)
	add(quo, rem)
	quo, rem, _ = poly.DivMod(g, p, append(slices.Clone(p), 1))
	add(quo, rem)
	add(poly.Gcd(g, p, q), poly.Gcd(g, p, nil), poly.Gcd(g, nil, p), poly.Derivative(g, p), poly.FromRoots(g), poly.FromRoots(g, p...))
	for _, other := range [][]int{q, p, nil} {
		d, u, v := poly.Bezout(g, p, other)
		add(d, u, v)
		d, u, v = poly.Bezout(g, other, p)
		add(d, u, v)
	}
	checked(poly.Compose(g, p, q))
	checked(poly.Compose(g, p, []int{0, 1}))
	checked(poly.Compose(g, []int{0, 1}, p))
	checked(poly.PowMod(g, p, 0, q))
	checked(poly.PowMod(g, p, 1, append(slices.Clone(p), 1)))
	checked(poly.PowMod(g, p, 5, q))
	checked(poly.Interpolate(g, []int{0, 1}, []int{p[0], q[0]}))
	checked(poly.Reverse(g, p, 9))
	checked(poly.Roots(g, p))
	return list
}

func TestMemory(t *testing.T) {
	r := &random{state: 7}
	for _, g := range fields(t) {
		for range 20 {
			p, q := append(r.loose(g, 5), 1), append(r.loose(g, 5), 1)
			keptP, keptQ := slices.Clone(p), slices.Clone(q)
			have, want := results(g, p, q), results(g, p, q)
			for i, l := range have {
				equal(t, g, l, want[i], "Rules: a result shares memory", i, p, q)
				for j := range l {
					l[j] = -99
				}
			}
			if !slices.Equal(p, keptP) || !slices.Equal(q, keptQ) {
				t.Fatalf("Rules: an argument is changed: %v, %v", p, q)
			}
			for i, l := range results(g, p, q) {
				equal(t, g, l, want[i], "Rules: a result is kept", i, p, q)
			}
		}
	}
}
