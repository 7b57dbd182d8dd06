package factor_test

import (
	"math"
	"math/big"
	"slices"
	"testing"

	"codewright/api"
	"codewright/factor"
	"codewright/field"
	"codewright/poly"
)

func TestIrreducibleOfAll(t *testing.T) {
	for q, n := range small {
		g := standard(t, q)
		for d, list := range sieve(g, n) {
			if d == 0 {
				continue
			}
			for i, p := range monics(g, d) {
				want := slices.ContainsFunc(list, func(f []int) bool { return slices.Equal(f, p) })
				a := poly.Scale(g, 1+i%(q-1), p)
				if ok, e := factor.Irreducible(g, loose(g, a)); ok != want || e != api.OK {
					t.Errorf("P6.6: Irreducible(%v) over %v: %v and error %d", a, g.Field(), ok, e)
				}
			}
			count, e := factor.Count(g, d)
			if valueOf(count).Int64() != int64(len(list)) || e != api.OK {
				t.Errorf("P6.7: Count(%d) over %v: %v and error %d", d, g.Field(), count, e)
			}
			first, e := factor.First(g, d)
			if !slices.Equal(first, list[0]) || e != api.OK {
				t.Errorf("P6.8: First(%d) over %v: have %v and error %d, want %v", d, g.Field(), first, e, list[0])
			}
		}
	}
}

func TestCount(t *testing.T) {
	for _, g := range fields(t) {
		counts := make([]*big.Int, api.MaxDegree+1)
		for n := 1; n <= api.MaxDegree; n++ {
			count, e := factor.Count(g, n)
			if e != api.OK || len(count) == 0 || count[len(count)-1] == 0 {
				t.Fatalf("P6.7: Count(%d) over %v: %v and error %d", n, g.Field(), count, e)
			}
			counts[n] = valueOf(count)
			sum := new(big.Int)
			for d := 1; d <= n; d++ {
				if n%d == 0 {
					sum.Add(sum, new(big.Int).Mul(big.NewInt(int64(d)), counts[d]))
				}
			}
			if want := new(big.Int).Exp(big.NewInt(int64(g.Order())), big.NewInt(int64(n)), nil); sum.Cmp(want) != 0 {
				t.Errorf("P6.7: Count(%d) over %v: %v", n, g.Field(), counts[n])
			}
		}
		for _, n := range []int{0, -1, api.MaxDegree + 1, math.MinInt, math.MaxInt} {
			if count, e := factor.Count(g, n); len(count) > 0 || e != api.ErrRange {
				t.Errorf("P6.7: Count(%d) over %v: %v and error %d", n, g.Field(), count, e)
			}
		}
	}
}

func TestFirst(t *testing.T) {
	for _, g := range fields(t) {
		for n := 1; n <= api.MaxFirst; n++ {
			first, e := factor.First(g, n)
			if e != api.OK || len(first) != n+1 || first[n] != 1 || !isIrreducible(g, first) {
				t.Fatalf("P6.8: First(%d) over %v: %v and error %d", n, g.Field(), first, e)
			}
			// All that are less are reducible.
			if count := index(g, first); count <= 1500 {
				for i := range count {
					p := monomial(n)
					for j, rest := 0, i; rest > 0; j, rest = j+1, rest/g.Order() {
						p[j] = rest % g.Order()
					}
					if isIrreducible(g, p) {
						t.Errorf("P6.8: First(%d) over %v: have %v, want %v", n, g.Field(), first, p)
						break
					}
				}
			}
		}
		for _, n := range []int{0, -1, api.MaxFirst + 1, math.MinInt, math.MaxInt} {
			if first, e := factor.First(g, n); len(first) > 0 || e != api.ErrRange {
				t.Errorf("P6.8: First(%d) over %v: %v and error %d", n, g.Field(), first, e)
			}
		}
	}
}

// period returns the least n of at least 1 for which a divides x^n - 1, found by trying all.
func period(g *field.GF, a []int) int {
	_, one, _ := poly.DivMod(g, []int{1}, a)
	power := one
	for n := 1; ; n++ {
		_, power, _ = poly.DivMod(g, append([]int{0}, power...), a)
		if slices.Equal(power, one) {
			return n
		}
	}
}

func TestPeriod(t *testing.T) {
	for q, n := range small {
		g := standard(t, q)
		for d := range n + 1 {
			for i, p := range monics(g, d) {
				a := loose(g, poly.Scale(g, 1+i%(q-1), p))
				have, e := factor.Period(g, a)
				if p[0] == 0 && (have != 0 || e != api.ErrForm) {
					t.Errorf("P6.9: Period(%v) over %v: %d and error %d", a, g.Field(), have, e)
				}
				if p[0] != 0 && (have != period(g, a) || e != api.OK) {
					t.Errorf("P6.9: Period(%v) over %v: %d and error %d", a, g.Field(), have, e)
				}
			}
		}
	}
}

func TestPeriodLimits(t *testing.T) {
	for _, g := range fields(t) {
		for n, size := 1, g.Order(); n <= 40; n++ {
			a := monomial(n)
			if have, e := factor.Period(g, a); size <= api.MaxWords && (have != 0 || e != api.ErrForm) || size > api.MaxWords && (have != 0 || e != api.ErrBig) {
				t.Errorf("P6.9: Period(%v) over %v: %d and error %d", a, g.Field(), have, e)
			}
			a[0] = g.Neg(1)
			if have, e := factor.Period(g, a); size <= api.MaxWords && (have != n || e != api.OK) || size > api.MaxWords && (have != 0 || e != api.ErrBig) {
				t.Errorf("P6.9: Period(%v) over %v: %d and error %d", a, g.Field(), have, e)
			}
			if size <= api.MaxWords {
				size *= g.Order()
			}
		}
		for _, n := range []int{64, 255, api.MaxDegree} {
			if have, e := factor.Period(g, monomial(n)); have != 0 || e != api.ErrBig {
				t.Errorf("P6.9: Period of x^%d over %v: %d and error %d", n, g.Field(), have, e)
			}
		}
	}
	// x^16 + x^12 + x^3 + x + 1 has the greatest period of its degree over the field of 2 elements.
	a := monomial(16)
	a[0], a[1], a[3], a[12] = 1, 1, 1, 1
	if have, e := factor.Period(standard(t, 2), a); have != 65535 || e != api.OK {
		t.Errorf("P6.9: Period(%v): %d and error %d", a, have, e)
	}
}

func TestFactorsOfXToTheQToTheN(t *testing.T) {
	for q := 2; q <= api.MaxQ; q++ {
		f, e := field.Standard(q)
		if e != api.OK {
			continue
		}
		g := made(t, f)
		for n, size := 1, q; size <= api.MaxDegree; n, size = n+1, size*q {
			a := monomial(size)
			a[1] = g.Neg(1)
			var want []api.Factor
			for d, list := range sieve(g, n) {
				for _, p := range list {
					if n%d == 0 {
						want = append(want, api.Factor{Poly: p, Mult: 1})
					}
				}
			}
			lead, fs, e := factor.Complete(g, a)
			if lead != 1 || e != api.OK || !sameFactors(fs, want) {
				t.Errorf("P6.10: the factors of x^%d - x over %v: %v and error %d", size, f, fs, e)
			}
			parts, e := factor.ByDegree(g, a)
			if e != api.OK || !sameFactors(parts, grouped(g, want, byDegree)) {
				t.Errorf("P6.4: the factors of x^%d - x over %v: %v and error %d", size, f, parts, e)
			}
		}
	}
}

func TestExamples(t *testing.T) {
	two, three := standard(t, 2), standard(t, 3)
	factored(t, two, 1, []api.Factor{{Poly: []int{1, 1, 1}, Mult: 1}, {Poly: []int{1, 1, 0, 1}, Mult: 1}})
	factored(t, two, 1, []api.Factor{{Poly: []int{0, 1}, Mult: 2}, {Poly: []int{1, 1}, Mult: 2}})
	factored(t, two, 1, []api.Factor{{Poly: []int{0, 1}, Mult: 1}, {Poly: []int{1, 1}, Mult: 1}, {Poly: []int{1, 1, 1}, Mult: 1}})
	factored(t, three, 2, []api.Factor{{Poly: []int{1, 1}, Mult: 1}, {Poly: []int{2, 1}, Mult: 1}})
	if n, e := factor.Period(two, []int{1, 1, 0, 0, 1}); n != 15 || e != api.OK {
		t.Errorf("P6.9: the period is %d, error %d", n, e)
	}
	if first, e := factor.First(two, 4); !slices.Equal(first, []int{1, 1, 0, 0, 1}) || e != api.OK {
		t.Errorf("P6.8: First(4) is %v, error %d", first, e)
	}
	if count, _ := factor.Count(three, 2); valueOf(count).Int64() != 3 {
		t.Errorf("P6.7: Count(2) is %v", count)
	}
}

func TestMemory(t *testing.T) {
	g := standard(t, 9)
	a := poly.Mul(g, []int{1, 1}, []int{3, 1}, []int{4, 1}, []int{1, 1, 0, 1}, []int{3, 1}, []int{2})
	alter := func(want []api.Factor, make func() []api.Factor) {
		have := make()
		for i, f := range have {
			if !slices.Equal(f.Poly, want[i].Poly) {
				t.Errorf("Rules: the factors share memory: %v", have)
			}
			for j := range f.Poly {
				f.Poly[j] = -99
			}
		}
		if have = make(); !sameFactors(have, want) {
			t.Errorf("Rules: a result is kept: %v", have)
		}
	}
	b := poly.Mul(g, []int{1, 1}, []int{3, 1}, []int{1, 1, 0, 1})
	for _, make := range []func() []api.Factor{
		func() []api.Factor { _, fs, _ := factor.Complete(g, a); return fs },
		func() []api.Factor { fs, _ := factor.Squarefree(g, a); return fs },
		func() []api.Factor { fs, _ := factor.ByDegree(g, b); return fs },
		func() []api.Factor { _, fs, _ := factor.Complete(g, []int{1, 1}); return fs },
		func() []api.Factor { p, _ := factor.First(g, 3); return []api.Factor{{Poly: p}} },
		func() []api.Factor {
			p, _ := factor.Product(g, 1, []api.Factor{{Poly: b, Mult: 1}})
			return []api.Factor{{Poly: p}}
		},
	} {
		var want []api.Factor
		for _, f := range make() {
			want = append(want, api.Factor{Poly: slices.Clone(f.Poly), Mult: f.Mult})
		}
		alter(want, make)
	}
}
