package grs_test

import (
	"math"
	"slices"
	"testing"

	"codewright/api"
	"codewright/field"
	"codewright/grs"
)

// coded returns the code of s.
func coded(t *testing.T, s api.GRS) api.Code {
	t.Helper()
	c, e := grs.Code(s)
	if e != api.OK {
		t.Fatal(s, e)
	}
	return c
}

// unshared reports an error if a change of the result changes the argument, which was before like before.
func unshared(t *testing.T, s, before, out api.GRS, promise string) {
	t.Helper()
	for _, l := range [][]int{out.Points, out.Mults, out.F.Mod} {
		for i := range l {
			l[i] = -1
		}
		_ = append(l, -1)
	}
	if !same(s, before) {
		t.Errorf("Rules: %s: the result shares memory with %v, which is now %v", promise, before, s)
	}
}

func TestDual(t *testing.T) {
	great(t, func(g *field.GF, _ *random, s api.GRS) {
		before := cloned(s)
		d, e := grs.Dual(s)
		want := cloned(s)
		want.K = len(s.Points) - s.K
		for i, x := range s.Points {
			for j, y := range s.Points {
				if i != j {
					want.Mults[i] = g.Mul(want.Mults[i], g.Sub(x, y))
				}
			}
			want.Mults[i], _ = g.Inv(want.Mults[i])
		}
		sameGRS(t, d, e, want, "P18.3: Dual", s)
		sameCode(t, coded(t, d), api.OK, dual(t, coded(t, s)), "P18.3: the code of the dual description", s)
		back, e := grs.Dual(d)
		sameGRS(t, back, e, s, "P18.3: the dual of the dual description", s)
		unshared(t, s, before, d, "Dual")
	})
}

// without returns the entries of l whose indices are not in at.
func without(l, at []int) []int {
	var rest []int
	for i := range l {
		if !slices.Contains(at, i) {
			rest = append(rest, l[i])
		}
	}
	return rest
}

func TestPuncture(t *testing.T) {
	great(t, func(g *field.GF, r *random, s api.GRS) {
		n, before := len(s.Points), cloned(s)
		for _, size := range []int{0, n - 1, r.below(n), r.below(n)} {
			at := r.positions(n, size)
			kept := slices.Clone(at)
			want := api.GRS{F: s.F, K: min(s.K, n-size), Points: without(s.Points, at), Mults: without(s.Mults, at)}
			have, e := grs.Puncture(s, at...)
			sameGRS(t, have, e, want, "P18.4: Puncture", s, at)
			if !slices.Equal(at, kept) {
				t.Errorf("Rules: Puncture changes the positions %v", kept)
			}
			var rows [][]int
			for _, row := range coded(t, s).Gen {
				rows = append(rows, without(row, at))
			}
			sameCode(t, coded(t, have), api.OK, generated(t, g, n-size, rows), "P18.4: the code of a punctured description", s, at)
			unshared(t, s, before, have, "Puncture")
		}
	})
}

func TestErrorsOfPuncture(t *testing.T) {
	great(t, func(g *field.GF, r *random, s api.GRS) {
		of := func(at ...int) map[string]result {
			return map[string]result{"Puncture": ofGRS(grs.Puncture(s, at...))}
		}
		n := len(s.Points)
		all := r.positions(n, n)
		for _, far := range []int{math.MinInt, -1, n, math.MaxInt} {
			failed(t, of(far), api.ErrRange, "P18.4", s, far)
			failed(t, of(0, 0, far), api.ErrRange, "P18.4", s, far)
			failed(t, of(far, far), api.ErrRange, "P18.4", s, far)
			failed(t, of(append(all, far)...), api.ErrRange, "P18.4", s, all, far)
		}
		failed(t, of(n-1, n-1), api.ErrTwice, "P18.4", s)
		failed(t, of(append(all, r.below(n))...), api.ErrTwice, "P18.4", s, all)
		failed(t, of(make([]int, 1000)...), api.ErrTwice, "P18.4", s)
		failed(t, of(all...), api.ErrLength, "P18.4", s, all)
	})
}

func TestAffine(t *testing.T) {
	great(t, func(g *field.GF, r *random, s api.GRS) {
		before := cloned(s)
		for _, x := range [][2]int{{1, 0}, {1, g.Order() - 1}, {g.Order() - 1, 0}, {1 + r.below(g.Order()-1), r.below(g.Order())}} {
			a, b := x[0], x[1]
			want := cloned(s)
			for i, p := range s.Points {
				want.Points[i] = g.Add(g.Mul(a, p), b)
			}
			have, e := grs.Affine(s, a, b)
			sameGRS(t, have, e, want, "P18.4: Affine", s, a, b)
			sameCode(t, coded(t, have), api.OK, coded(t, s), "P18.4: the code of an affine image", s, a, b)
			unshared(t, s, before, have, "Affine")
		}
		of := func(a, b int) map[string]result {
			return map[string]result{"Affine": ofGRS(grs.Affine(s, a, b))}
		}
		for _, strange := range []int{math.MinInt, -1, g.Order(), math.MaxInt} {
			failed(t, of(strange, 0), api.ErrElement, "P18.4", s, strange)
			failed(t, of(1, strange), api.ErrElement, "P18.4", s, strange)
			failed(t, of(0, strange), api.ErrElement, "P18.4", s, strange)
		}
		failed(t, of(0, 0), api.ErrZero, "P18.4", s)
		failed(t, of(0, g.Order()-1), api.ErrZero, "P18.4", s)
	})
}

// TestMemoryOfStandard changes the description of the field behind the calls.
func TestMemoryOfStandard(t *testing.T) {
	f := api.Field{P: 2, M: 2, Mod: []int{1, 1}}
	s, e := grs.Standard(f, 3, 2)
	c, err := grs.Code(s)
	if e != api.OK || err != api.OK {
		t.Fatal(e, err)
	}
	f.Mod[0] = 0
	if grs.Check(s) != api.OK {
		t.Error("Rules: Standard keeps the field", s)
	}
	s.F.Mod[0], s.Points[0] = 0, 3
	if !slices.Equal(c.F.Mod, []int{1, 1}) {
		t.Error("Rules: Code keeps the field", c)
	}
}
