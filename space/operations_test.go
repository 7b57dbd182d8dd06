package space_test

import (
	"slices"
	"testing"

	"codewright/api"
	"codewright/field"
	"codewright/space"
)

// TestAllWords compares the results with their definitions, for all words of small lengths.
func TestAllWords(t *testing.T) {
	r := &random{state: 2}
	for _, g := range small(t) {
		for n := range 4 {
			for range 12 {
				a, b := r.space(t, g, r.below(n+1), n), r.space(t, g, r.below(n+1), n)
				keptA, keptB := copied(a), copied(b)
				pairs(t, g, a, b)
				quotients(t, g, a, b)
				quotients(t, g, b, b)
				supports(t, g, a)
				if !equal(a, keptA) || !equal(b, keptB) {
					t.Errorf("Rules: an argument is changed: %v, %v", keptA, keptB)
				}
			}
		}
	}
}

// pairs reports an error unless Sum, Meet, Inside and Dual are right for a and b.
func pairs(t *testing.T, g *field.GF, a, b api.Matrix) {
	t.Helper()
	f, n := g.Field(), a.Cols
	inA, inB := spanned(g, a), spanned(g, b)
	sums := spanned(g, api.Matrix{Cols: n, Rows: slices.Concat(a.Rows, b.Rows)})
	m, e := space.Sum(f, a, b)
	isSpaceOf(t, m, e, n, func(w []int) bool { return sums[key(w)] }, "P10.2: Sum", g, a, b)
	m, e = space.Meet(f, a, b)
	isSpaceOf(t, m, e, n, func(w []int) bool { return inA[key(w)] && inB[key(w)] }, "P10.2: Meet", g, a, b)
	inside := true
	for w := range inA {
		inside = inside && inB[w]
	}
	in, e := space.Inside(f, a, b)
	sameBool(t, in, e, inside, "P10.3: Inside", g, a, b)
	m, e = space.Dual(f, a)
	isSpaceOf(t, m, e, n, func(w []int) bool {
		return !slices.ContainsFunc(a.Rows, func(row []int) bool { return dot(g, row, w) != 0 })
	}, "P10.2: Dual", g, a)
}

// quotients reports an error unless Quotient is right for a and b, and for their sum, and Has, Reduce and Coordinates for a and all words.
func quotients(t *testing.T, g *field.GF, a, b api.Matrix) {
	t.Helper()
	f, n := g.Field(), a.Cols
	inA := spanned(g, a)
	reduced := map[string]bool{}
	both, _ := space.Sum(f, a, b)
	inBoth := spanned(g, both)
	words(g, n, func(v []int) {
		in, e := space.Has(f, a, v)
		sameBool(t, in, e, inA[key(v)], "P10.3: Has", g, a, v)
		w := least(t, g, a, v)
		if inBoth[key(v)] {
			reduced[key(w)] = true
		}
		have, e := space.Reduce(f, a, v)
		sameList(t, have, e, w, "P10.3: Reduce", g, a, v)
		x, e := space.Coordinates(f, a, v)
		if !in && (e != api.ErrNone || len(x) != 0) {
			t.Errorf("P10.3: %v: Coordinates(%v, %v): have %v and error %d, want ErrNone", f, a, v, x, e)
		}
		if in && len(x) == len(a.Rows) {
			sameList(t, combined(g, x, a), e, v, "P10.3: the sum with Coordinates", g, a, v)
		} else if in {
			t.Errorf("P10.3: %v: Coordinates(%v, %v): have %v and error %d", f, a, v, x, e)
		}
	})
	m, e := space.Quotient(f, a, both)
	isSpaceOf(t, m, e, n, func(w []int) bool { return reduced[key(w)] }, "P10.4: Quotient", g, a, both)
	m, e = space.Quotient(f, a, b)
	if inside, _ := space.Inside(f, a, b); !inside {
		failed(t, map[string]result{"Quotient": ofMatrix(m, e)}, api.ErrNone, "P10.4", f, a, b)
	}
}

// least returns the one word that differs from v by a word of a and is 0 at the pivot columns of a.
func least(t *testing.T, g *field.GF, a api.Matrix, v []int) []int {
	t.Helper()
	var found [][]int
	words(g, len(a.Rows), func(x []int) {
		w := combined(g, x, a)
		for i, y := range v {
			w[i] = g.Add(w[i], y)
		}
		for _, p := range leads(a) {
			if w[p] != 0 {
				return
			}
		}
		found = append(found, w)
	})
	if len(found) != 1 {
		t.Fatalf("P10.3: %v: %d words reduce %v by %v", g.Field(), len(found), v, a)
	}
	return found[0]
}

// supports reports an error unless Supported is right for a and all sets.
func supports(t *testing.T, g *field.GF, a api.Matrix) {
	t.Helper()
	in := spanned(g, a)
	for bits := range 1 << a.Cols {
		set := []int{}
		for i := range a.Cols {
			if bits>>i&1 == 1 {
				set = append(set, i)
			}
		}
		kept := slices.Clone(set)
		m, e := space.Supported(g.Field(), a, set)
		isSpaceOf(t, m, e, a.Cols, func(w []int) bool {
			for i, x := range w {
				if x != 0 && bits>>i&1 == 0 {
					return false
				}
			}
			return in[key(w)]
		}, "P10.4: Supported", g, a, set)
		sameList(t, set, api.OK, kept, "Rules: an argument", g)
	}
}

// TestConsequences goes through larger spaces over all kinds of fields.
func TestConsequences(t *testing.T) {
	r := &random{state: 3}
	for _, g := range fields(t) {
		for _, n := range []int{1, 2, 5, 8, 13} {
			for range 4 {
				a, b, c := r.space(t, g, r.below(n+2), n), r.space(t, g, r.below(n+2), n), r.space(t, g, r.below(n+2), n)
				duals(t, g, a, b)
				modular(t, g, a, b, c)
				larger(t, g, a, r)
			}
		}
	}
}

// duals reports an error unless the laws of duals and dimensions hold for a and b.
func duals(t *testing.T, g *field.GF, a, b api.Matrix) {
	t.Helper()
	f := g.Field()
	dualA, e := space.Dual(f, a)
	sameInt(t, len(a.Rows)+len(dualA.Rows), e, a.Cols, "P10.5: the dimensions of a space and its dual", g, a)
	back, e := space.Dual(f, dualA)
	sameMatrix(t, back, e, a, "P10.5: the dual of the dual", g, a)
	dualB, _ := space.Dual(f, b)
	both, _ := space.Sum(f, a, b)
	common, _ := space.Meet(f, a, b)
	left, _ := space.Dual(f, both)
	right, e := space.Meet(f, dualA, dualB)
	sameMatrix(t, left, e, right, "P10.5: the dual of a sum", g, a, b)
	sameInt(t, len(both.Rows)+len(common.Rows), e, len(a.Rows)+len(b.Rows), "P10.5: the dimensions of sum and intersection", g, a, b)
	for _, m := range []api.Matrix{dualA, both, common} {
		if space.Check(f, m) != api.OK {
			t.Errorf("P10.2: %v: %v is no space", f, m)
		}
	}
	for _, x := range []struct{ in, of api.Matrix }{{a, both}, {b, both}, {common, a}, {common, b}} {
		in, e := space.Inside(f, x.in, x.of)
		sameBool(t, in, e, true, "P10.2: Inside", g, x.in, x.of)
		q, e := space.Quotient(f, x.in, x.of)
		sameInt(t, len(q.Rows)+len(x.in.Rows), e, len(x.of.Rows), "P10.5: the dimension of a quotient", g, x.in, x.of)
		sum, e := space.Sum(f, x.in, q)
		sameMatrix(t, sum, e, x.of, "P10.4: a space and the quotient by it", g, x.in, x.of)
	}
}

// modular reports an error unless the modular law holds for a, b and the sum of a and c.
func modular(t *testing.T, g *field.GF, a, b, c api.Matrix) {
	t.Helper()
	f := g.Field()
	c, _ = space.Sum(f, a, c)
	common, _ := space.Meet(f, b, c)
	left, _ := space.Sum(f, a, common)
	both, _ := space.Sum(f, a, b)
	right, e := space.Meet(f, both, c)
	sameMatrix(t, left, e, right, "P10.5: the modular law", g, a, b, c)
}

// larger reports an error unless the words of a, and others, are reduced, and the words of a at some positions found.
func larger(t *testing.T, g *field.GF, a api.Matrix, r *random) {
	t.Helper()
	f := g.Field()
	x := r.list(g, len(a.Rows), 1)
	v := combined(g, x, a)
	have, e := space.Coordinates(f, a, v)
	sameList(t, have, e, x, "P10.3: Coordinates", g, a, v)
	w, e := space.Reduce(f, a, v)
	sameList(t, w, e, make([]int, a.Cols), "P10.3: Reduce of a word of the space", g, a, v)
	other := r.list(g, a.Cols, 1)
	for _, p := range leads(a) {
		other[p] = 0
	}
	sum := make([]int, a.Cols)
	for i := range sum {
		sum[i] = g.Add(v[i], other[i])
	}
	kept := slices.Clone(sum)
	w, e = space.Reduce(f, a, sum)
	sameList(t, w, e, other, "P10.3: Reduce", g, a, sum)
	in, e := space.Has(f, a, sum)
	sameBool(t, in, e, slices.Max(other) == 0, "P10.3: Has", g, a, sum)
	sameList(t, sum, api.OK, kept, "Rules: an argument", g)
	positions(t, g, a, r)
}

// positions reports an error unless Supported is right for a and a set.
func positions(t *testing.T, g *field.GF, a api.Matrix, r *random) {
	t.Helper()
	f, set, units := g.Field(), []int{}, api.Matrix{Cols: a.Cols}
	for i := range a.Cols {
		if r.below(3) > 0 {
			row := make([]int, a.Cols)
			row[i] = 1
			set, units.Rows = append(set, i), append(units.Rows, row)
		}
	}
	want, _ := space.Meet(f, a, units)
	have, e := space.Supported(f, a, set)
	sameMatrix(t, have, e, want, "P10.4: Supported", g, a, set)
}
