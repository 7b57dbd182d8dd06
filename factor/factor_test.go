package factor_test

import (
	"math"
	"slices"
	"testing"

	"codewright/api"
	"codewright/factor"
	"codewright/field"
	"codewright/poly"
)

// small are the orders of small fields, with a degree up to which all polynomials are gone through.
var small = map[int]int{2: 9, 3: 5, 4: 4, 5: 4, 7: 3, 8: 3, 9: 3, 16: 2, 25: 2}

func TestAllSmallPolynomials(t *testing.T) {
	for q, n := range small {
		g := standard(t, q)
		list := sieve(g, n)
		for d := range n + 1 {
			for i, p := range monics(g, d) {
				fs, rest := divided(g, p, list)
				if rest != 0 {
					t.Fatal("the sieve is wrong", q, p, fs)
				}
				factored(t, g, 1+i%(q-1), fs)
			}
		}
	}
}

func TestRandomPolynomials(t *testing.T) {
	r := &random{state: 1}
	for _, g := range fields(t) {
		for _, n := range []int{1, 2, 3, 5, 9, 16, 31} {
			a := r.of(g, n)
			lead, fs, e := factor.Complete(g, a)
			if e != api.OK || lead != a[n] || !slices.Equal(multiplied(g, lead, fs), a) {
				t.Errorf("P6.2: Complete(%v) over %v: %d, %v and error %d", a, g.Field(), lead, fs, e)
			}
			for i, f := range fs {
				if f.Mult < 1 || f.Poly[len(f.Poly)-1] != 1 || !isIrreducible(g, f.Poly) || i > 0 && less(fs[i-1].Poly, f.Poly) >= 0 {
					t.Errorf("P6.2: Complete(%v) over %v: %v", a, g.Field(), fs)
				}
			}
			factored(t, g, lead, fs)
		}
	}
}

// distinct returns count distinct monic irreducible polynomials of degrees up to n, in ascending order.
func (r *random) distinct(g *field.GF, n, count int) [][]int {
	var list [][]int
	for len(list) < count {
		p, _ := poly.Monic(g, r.of(g, 1+r.below(n)))
		if isIrreducible(g, p) && !slices.ContainsFunc(list, func(q []int) bool { return slices.Equal(p, q) }) {
			list = append(list, p)
		}
	}
	slices.SortFunc(list, less)
	return list
}

func TestPlantedFactors(t *testing.T) {
	r := &random{state: 2}
	for _, g := range fields(t) {
		p := g.Field().P
		mults := []int{1, 1, 1, 2, 3, min(p, 50), min(2*p, 50), min(p+1, 50), min(p*p, 30)}
		for range 12 {
			var fs []api.Factor
			size := 0
			for _, f := range r.distinct(g, 4, 1+r.below(5)) {
				mult := mults[r.below(len(mults))]
				if size += mult * (len(f) - 1); size <= 100 {
					fs = append(fs, api.Factor{Poly: f, Mult: mult})
				}
			}
			factored(t, g, 1+r.below(g.Order()-1), fs)
		}
		for range 6 {
			var fs []api.Factor
			for _, f := range r.distinct(g, 5, 5) {
				fs = append(fs, api.Factor{Poly: f, Mult: 1})
			}
			factored(t, g, 1+r.below(g.Order()-1), fs)
		}
	}
}

func TestGreatPolynomials(t *testing.T) {
	r := &random{state: 3}
	for _, q := range []int{2, 3, 16, 251, 256} {
		g := standard(t, q)
		line := []int{1 + r.below(q-1), 1}
		for _, n := range []int{1, 2, 3, 9, 16, 27, 243, 255, api.MaxDegree} {
			factored(t, g, q-1, []api.Factor{{Poly: line, Mult: n}})
		}
		factored(t, g, 1, []api.Factor{{Poly: []int{0, 1}, Mult: 128}, {Poly: line, Mult: 128}})
		if q >= 16 {
			var fs []api.Factor
			for _, f := range r.distinct(g, 4, 64) {
				fs = append(fs, api.Factor{Poly: f, Mult: 1})
			}
			factored(t, g, 1+r.below(q-1), fs)
			continue
		}
		a := r.of(g, api.MaxDegree)
		lead, fs, e := factor.Complete(g, a)
		if e != api.OK || !slices.Equal(multiplied(g, lead, fs), a) || slices.ContainsFunc(fs, func(f api.Factor) bool { return !isIrreducible(g, f.Poly) }) {
			t.Errorf("P6.2: Complete(%v) over %v: %d, %v and error %d", a, g.Field(), lead, fs, e)
		}
	}
	// Irreducible trinomials over the field of 2 elements, two of which have the same leading coefficients down to x^10.
	g := standard(t, 2)
	first, second, third := monomial(127), monomial(127), monomial(113)
	first[0], first[1], second[0], second[7], third[0], third[9] = 1, 1, 1, 1, 1, 1
	factored(t, g, 1, []api.Factor{{Poly: first, Mult: 1}})
	factored(t, g, 1, []api.Factor{{Poly: first, Mult: 1}, {Poly: second, Mult: 1}})
	factored(t, g, 1, []api.Factor{{Poly: third, Mult: 1}, {Poly: first, Mult: 1}})
	factored(t, g, 1, []api.Factor{{Poly: second, Mult: 2}})
}

func TestConstants(t *testing.T) {
	for _, g := range fields(t) {
		for _, lead := range []int{1, g.Order() - 1} {
			factored(t, g, lead, nil)
			if n, e := factor.Period(g, []int{lead, 0}); n != 1 || e != api.OK {
				t.Errorf("P6.9: Period(%d) over %v: %d and error %d", lead, g.Field(), n, e)
			}
		}
	}
}

// refused reports an error unless all functions that say so return the error want for a.
func refused(t *testing.T, g *field.GF, a []int, want api.Errno) {
	t.Helper()
	if lead, fs, e := factor.Complete(g, a); lead != 0 || len(fs) > 0 || e != want {
		t.Errorf("P6.2: Complete(%v) over %v: %d, %v and error %d", a, g.Field(), lead, fs, e)
	}
	if fs, e := factor.Squarefree(g, a); len(fs) > 0 || e != want {
		t.Errorf("P6.3: Squarefree(%v) over %v: %v and error %d", a, g.Field(), fs, e)
	}
	if fs, e := factor.ByDegree(g, a); len(fs) > 0 || e != want {
		t.Errorf("P6.4: ByDegree(%v) over %v: %v and error %d", a, g.Field(), fs, e)
	}
	if ok, e := factor.Irreducible(g, a); ok || e != want {
		t.Errorf("P6.6: Irreducible(%v) over %v: %v and error %d", a, g.Field(), ok, e)
	}
	if n, e := factor.Period(g, a); n != 0 || e != want {
		t.Errorf("P6.9: Period(%v) over %v: %d and error %d", a, g.Field(), n, e)
	}
}

func TestRefusals(t *testing.T) {
	for _, g := range fields(t) {
		for _, zero := range zeros(g) {
			refused(t, g, zero, api.ErrZero)
		}
		refused(t, g, make([]int, 1000), api.ErrZero)
		for _, n := range []int{api.MaxDegree + 1, api.MaxDegree + 2, 5000} {
			refused(t, g, monomial(n), api.ErrBig)
			refused(t, g, append([]int{1}, monomial(n-1)...), api.ErrBig)
		}
		// The degree counts, not the length.
		long := append(monomial(2), make([]int, 500)...)
		if lead, fs, e := factor.Complete(g, append(long, -1, g.Order())); lead != 1 || !sameFactors(fs, []api.Factor{{Poly: []int{0, 1}, Mult: 2}}) || e != api.OK {
			t.Errorf("P6.2: Complete of x^2 over %v: %d, %v and error %d", g.Field(), lead, fs, e)
		}
		if fs, e := factor.ByDegree(g, monomial(api.MaxDegree)); len(fs) > 0 || e != api.ErrForm {
			t.Errorf("P6.4: ByDegree of x^256 over %v: %v and error %d", g.Field(), fs, e)
		}
	}
}

func TestProduct(t *testing.T) {
	r := &random{state: 4}
	for _, g := range fields(t) {
		for range 30 {
			var fs []api.Factor
			for range r.below(5) {
				fs = append(fs, api.Factor{Poly: loose(g, r.of(g, r.below(4))), Mult: r.below(5)})
			}
			lead := []int{0, -1, g.Order(), math.MaxInt, 1, g.Order() - 1, r.below(g.Order())}[r.below(7)]
			kept := slices.Clone(fs)
			have, e := factor.Product(g, lead, fs)
			want := poly.Canon(g, multiplied(g, lead, fs))
			if !slices.Equal(have, want) || e != api.OK || !sameFactors(fs, kept) {
				t.Errorf("P6.5: Product(%d, %v) over %v: have %v and error %d, want %v", lead, fs, g.Field(), have, e, want)
			}
		}
	}
}

// produced reports an error unless Product returns want and e.
func produced(t *testing.T, g *field.GF, want []int, wanted api.Errno, lead int, fs ...api.Factor) {
	t.Helper()
	have, e := factor.Product(g, lead, fs)
	if !slices.Equal(have, want) || e != wanted {
		t.Errorf("P6.5: Product(%d, %v) over %v: have %v and error %d, want %v and error %d", lead, fs, g.Field(), have, e, want, wanted)
	}
}

func TestProductLimits(t *testing.T) {
	for _, g := range fields(t) {
		line, square, last := []int{0, 1, 0}, []int{0, 0, 1, -1}, g.Order()-1
		produced(t, g, []int{last}, api.OK, last)
		produced(t, g, nil, api.OK, g.Order())
		produced(t, g, monomial(256), api.OK, 1, api.Factor{Poly: line, Mult: 256})
		produced(t, g, monomial(256), api.OK, 1, api.Factor{Poly: square, Mult: 127}, api.Factor{Poly: line, Mult: 2}, api.Factor{Poly: line, Mult: 0})
		produced(t, g, nil, api.OK, 0, api.Factor{Poly: square, Mult: 128})
		for _, mult := range []int{128, 129, 1 << 31, 1 << 62, 1<<62 + 1, math.MaxInt} {
			produced(t, g, nil, api.ErrBig, 1, api.Factor{Poly: line, Mult: 1}, api.Factor{Poly: square, Mult: mult})
			produced(t, g, nil, api.ErrBig, 0, api.Factor{Poly: square, Mult: 1}, api.Factor{Poly: monomial(255), Mult: 1}, api.Factor{Poly: square, Mult: mult})
			produced(t, g, nil, api.ErrBig, 1, api.Factor{Poly: nil, Mult: 1}, api.Factor{Poly: square, Mult: mult}, api.Factor{Poly: square, Mult: mult})
		}
		produced(t, g, nil, api.ErrBig, 1, api.Factor{Poly: monomial(257), Mult: 1})
		produced(t, g, []int{1}, api.OK, 1, api.Factor{Poly: monomial(5000), Mult: 0})
		for _, mult := range []int{-1, math.MinInt} {
			produced(t, g, nil, api.ErrRange, 1, api.Factor{Poly: line, Mult: 300}, api.Factor{Poly: nil, Mult: mult})
			produced(t, g, nil, api.ErrRange, 1, api.Factor{Poly: line, Mult: mult}, api.Factor{Poly: line, Mult: 300})
			produced(t, g, nil, api.ErrRange, 0, api.Factor{Poly: []int{1}, Mult: mult})
		}
		// A degree below 1 counts as 0, and the power with Mult 0 is 1.
		value, _ := g.Pow(last, math.MaxInt)
		produced(t, g, []int{value}, api.OK, 1, api.Factor{Poly: []int{last, 0}, Mult: math.MaxInt})
		for _, zero := range zeros(g) {
			produced(t, g, []int{last}, api.OK, last, api.Factor{Poly: zero, Mult: 0})
			produced(t, g, nil, api.OK, last, api.Factor{Poly: zero, Mult: math.MaxInt}, api.Factor{Poly: line, Mult: 3})
		}
	}
}

func TestCompare(t *testing.T) {
	r := &random{state: 5}
	for _, g := range fields(t) {
		list := [][]int{nil, {1}, {g.Order() - 1}, {0, 1}, {1, 1}, {g.Order() - 1, 1}, {0, g.Order() - 1}, {0, 0, 1}, {1, 0, 1}, {0, 1, 1}}
		for range 20 {
			list = append(list, r.of(g, r.below(3)), r.of(g, r.below(6)))
		}
		for _, a := range list {
			for _, b := range list {
				want := less(a, b)
				want = min(1, max(-1, want))
				if have := factor.Compare(g, a, b); have != want {
					t.Errorf("P6.1: Compare(%v, %v) over %v is %d", a, b, g.Field(), have)
				}
				x, y := loose(g, a), loose(g, b)
				if have := factor.Compare(g, x, y); have != want || !slices.Equal(x, loose(g, a)) || !slices.Equal(y, loose(g, b)) {
					t.Errorf("P6.1: Compare(%v, %v) over %v is %d", x, y, g.Field(), have)
				}
			}
		}
		for _, a := range zeros(g) {
			for _, b := range zeros(g) {
				if factor.Compare(g, a, b) != 0 || factor.Compare(g, a, []int{1}) != -1 || factor.Compare(g, []int{1}, b) != 1 {
					t.Errorf("P6.1: Compare(%v, %v) over %v", a, b, g.Field())
				}
			}
		}
	}
}
