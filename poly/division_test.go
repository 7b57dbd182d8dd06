package poly_test

import (
	"math"
	"testing"

	"codewright/api"
	"codewright/field"
	"codewright/poly"
)

// divided tests the division of p by q, which is not zero.
func divided(t *testing.T, g *field.GF, p, q []int) {
	t.Helper()
	quo, rem, e := poly.DivMod(g, p, q)
	right(t, g, quo, e, canonical(g, quo), "P5.2 DivMod", p, q)
	right(t, g, rem, e, canonical(g, rem), "P5.2 DivMod", p, q)
	equal(t, g, plus(g, product(g, quo, q), rem), canonical(g, p), "P5.2 DivMod", p, q)
	if degree(rem) >= degree(canonical(g, q)) {
		t.Errorf("P5.2: DivMod(%v, %v) of %v: remainder %v", p, q, g.Field(), rem)
	}
}

func TestDivision(t *testing.T) {
	r := &random{state: 11}
	for _, g := range fields(t) {
		for range 80 {
			p, q := r.loose(g, 12), r.loose(g, 7)
			if len(canonical(g, q)) > 0 {
				divided(t, g, p, q)
				divided(t, g, product(g, p, q), q)
			}
		}
		for _, zero := range zeros(g) {
			divided(t, g, zero, []int{1, 1})
			divided(t, g, zero, []int{1, -1})
			for _, p := range [][]int{{1, 1}, zero} {
				quo, rem, e := poly.DivMod(g, p, zero)
				refused(t, g, quo, e, api.ErrZero, "P5.2 DivMod", p, zero)
				refused(t, g, rem, e, api.ErrZero, "P5.2 DivMod", p, zero)
			}
		}
		divided(t, g, monomial(300), []int{1, 1, 0, 1})
	}
}

// divides reports whether d, which is not zero, divides p: whether p is among the multiples of d.
func divides(g *field.GF, d, p []int) bool {
	rest := canonical(g, p)
	for degree(rest) >= degree(d) {
		factor, _ := g.Div(rest[degree(rest)], d[degree(d)])
		shifted := product(g, monomial(degree(rest)-degree(d)), d)
		rest = plus(g, rest, product(g, []int{g.Neg(factor)}, shifted))
	}
	return len(rest) == 0
}

func TestGcdOfAll(t *testing.T) {
	for q, n := range map[int]int{2: 5, 3: 3, 4: 2, 5: 2} {
		g := standard(t, q)
		list := all(g, n)
		for _, a := range list {
			for _, b := range list {
				var want []int
				for _, d := range list {
					if len(a)+len(b) > 0 && len(d) > len(want) && d[degree(d)] == 1 && divides(g, d, a) && divides(g, d, b) {
						want = d
					}
				}
				equal(t, g, poly.Gcd(g, a, b), want, "P5.2 Gcd", a, b)
			}
		}
	}
}

func TestGcd(t *testing.T) {
	r := &random{state: 12}
	for _, g := range fields(t) {
		for range 40 {
			p, q, common := r.loose(g, 8), r.loose(g, 8), append(r.exact(g, 4), 1)
			d := poly.Gcd(g, product(g, p, common), product(g, q, common))
			if len(canonical(g, p))+len(canonical(g, q)) == 0 {
				equal(t, g, d, nil, "P5.2 Gcd", p, q, common)
				continue
			}
			// The greatest common divisor of products with a common monic factor is the product with this factor.
			equal(t, g, d, product(g, poly.Gcd(g, p, q), common), "P5.2 Gcd", p, q, common)
			if d[degree(d)] != 1 || !divides(g, d, product(g, p, common)) || !divides(g, d, product(g, q, common)) {
				t.Errorf("P5.2: Gcd(%v, %v) times %v of %v is %v", p, q, common, g.Field(), d)
			}
		}
		for _, zero := range zeros(g) {
			equal(t, g, poly.Gcd(g, zero, nil), nil, "P5.2 Gcd", zero)
			equal(t, g, poly.Gcd(g, nil, zero), nil, "P5.2 Gcd", zero)
			last := g.Order() - 1
			equal(t, g, product(g, []int{last}, poly.Gcd(g, []int{0, 1, last}, zero)), []int{0, 1, last}, "P5.2 Gcd", zero)
			equal(t, g, product(g, []int{last}, poly.Gcd(g, zero, []int{0, 1, last})), []int{0, 1, last}, "P5.2 Gcd", zero)
		}
	}
}

// cofactors tests Bezout of p and q.
func cofactors(t *testing.T, g *field.GF, p, q []int) {
	t.Helper()
	d, u, v := poly.Bezout(g, p, q)
	equal(t, g, d, poly.Gcd(g, p, q), "P5.2 Bezout", p, q)
	equal(t, g, plus(g, product(g, u, p), product(g, v, q)), d, "P5.2 Bezout", p, q, u, v)
	equal(t, g, u, canonical(g, u), "P5.2 Bezout", p, q)
	equal(t, g, v, canonical(g, v), "P5.2 Bezout", p, q)
	a, b := canonical(g, p), canonical(g, q)
	switch {
	case len(a)+len(b) == 0:
		equal(t, g, u, nil, "P5.2 Bezout", p, q)
		equal(t, g, v, nil, "P5.2 Bezout", p, q)
	case len(b) == 0:
		inverse, _ := g.Inv(a[degree(a)])
		equal(t, g, u, []int{inverse}, "P5.2 Bezout", p, q)
		equal(t, g, v, nil, "P5.2 Bezout", p, q)
	case len(u) > 0 && degree(u) >= degree(b)-degree(d):
		t.Errorf("P5.2: Bezout(%v, %v) of %v: %v, %v, %v", p, q, g.Field(), d, u, v)
	}
}

func TestBezout(t *testing.T) {
	r := &random{state: 13}
	for _, g := range fields(t) {
		for range 80 {
			p, q, common := r.loose(g, 7), r.loose(g, 7), append(r.exact(g, 4), 1)
			cofactors(t, g, p, q)
			cofactors(t, g, product(g, p, common), product(g, q, common))
			cofactors(t, g, p, product(g, p, q))
			cofactors(t, g, product(g, p, q), q)
		}
		for _, zero := range zeros(g) {
			cofactors(t, g, zero, nil)
			cofactors(t, g, nil, zero)
			for _, p := range [][]int{{1}, {g.Order() - 1}, {1, g.Order() - 1}, {0, 0, 1, 0}} {
				cofactors(t, g, p, zero)
				cofactors(t, g, zero, p)
				cofactors(t, g, p, p)
				cofactors(t, g, p, []int{g.Order() - 1, 0})
			}
		}
	}
	for q, n := range map[int]int{2: 5, 3: 3, 4: 3} {
		g := standard(t, q)
		list := all(g, n)
		for _, a := range list {
			for _, b := range list {
				cofactors(t, g, a, b)
			}
		}
	}
}

// remainder returns the remainder of p divided by m, of which TestDivision tests that it is one.
func remainder(g *field.GF, p, m []int) []int {
	_, rem, _ := poly.DivMod(g, p, m)
	return rem
}

func TestPowMod(t *testing.T) {
	r := &random{state: 14}
	for _, g := range fields(t) {
		for range 6 {
			p, m := r.loose(g, 9), append(r.loose(g, 5), 1+r.below(g.Order()-1), -1)
			want := remainder(g, []int{1}, m)
			for n := range 20 {
				have, e := poly.PowMod(g, p, n, m)
				right(t, g, have, e, want, "P5.3 PowMod", p, n, m)
				want = remainder(g, product(g, want, p), m)
			}
			a, b := r.below(1<<40), r.below(1<<40)<<r.below(22)
			first, _ := poly.PowMod(g, p, a, m)
			second, _ := poly.PowMod(g, p, b, m)
			have, e := poly.PowMod(g, p, a+b, m)
			right(t, g, have, e, remainder(g, product(g, first, second), m), "P5.3 PowMod", p, a+b, m)
		}
		// Modulo x - 1, x is 1; modulo a constant all is 0; p^0 is 1, also for zero.
		have, e := poly.PowMod(g, []int{0, 1}, math.MaxInt, []int{g.Neg(1), 1})
		right(t, g, have, e, []int{1}, "P5.3 PowMod")
		have, e = poly.PowMod(g, []int{1, 1}, 3, []int{g.Order() - 1, 0})
		right(t, g, have, e, nil, "P5.3 PowMod")
		for _, zero := range zeros(g) {
			for n, want := range [][]int{{1}, nil, nil} {
				have, e = poly.PowMod(g, zero, n, []int{1, 1, 1})
				right(t, g, have, e, want, "P5.3 PowMod", zero, n)
			}
			have, e = poly.PowMod(g, zero, 0, []int{1})
			right(t, g, have, e, nil, "P5.3 PowMod", zero)
		}
	}
}

func TestPowModRefuses(t *testing.T) {
	for _, g := range fields(t) {
		for _, n := range []int{math.MinInt, -1, 0, 1} {
			for _, zero := range zeros(g) {
				have, e := poly.PowMod(g, []int{1, 1}, n, zero)
				refused(t, g, have, e, api.ErrZero, "P5.3 PowMod", n, zero)
			}
			have, e := poly.PowMod(g, []int{1, 1}, n, monomial(api.MaxDegree+1))
			refused(t, g, have, e, api.ErrBig, "P5.3 PowMod", n)
			if n < 0 {
				have, e = poly.PowMod(g, []int{1, 1}, n, []int{1})
				refused(t, g, have, e, api.ErrRange, "P5.3 PowMod", n)
				have, e = poly.PowMod(g, []int{1, 1}, n, monomial(api.MaxDegree))
				refused(t, g, have, e, api.ErrRange, "P5.3 PowMod", n)
			}
		}
		// The degree counts, not the length.
		long := append(monomial(api.MaxDegree), 0, g.Order(), -1)
		have, e := poly.PowMod(g, []int{0, 1}, api.MaxDegree-1, long)
		right(t, g, have, e, monomial(api.MaxDegree-1), "P5.3 PowMod")
		have, e = poly.PowMod(g, []int{0, 1}, api.MaxDegree, long)
		right(t, g, have, e, nil, "P5.3 PowMod")
		have, e = poly.PowMod(g, monomial(300), 1, []int{g.Neg(1), 0, 0, 0, 0, 0, 0, 1})
		right(t, g, have, e, monomial(300%7), "P5.3 PowMod")
	}
}
