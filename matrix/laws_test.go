package matrix_test

import (
	"slices"
	"testing"

	"codewright/api"
	"codewright/field"
	"codewright/matrix"
)

// stirred returns m behind elementary row operations.
func (r *random) stirred(g *field.GF, m api.Matrix) api.Matrix {
	m = copied(m)
	n := len(m.Rows)
	for range 3 * n {
		i, j := r.below(n), r.below(n)
		switch x := 1 + r.below(g.Order()-1); r.below(3) {
		case 0:
			m.Rows[i], m.Rows[j] = m.Rows[j], m.Rows[i]
		case 1:
			m.Rows[i] = g.Scale(x, m.Rows[i])
		default:
			for c, y := range m.Rows[j] {
				if i != j {
					m.Rows[i][c] = g.Add(m.Rows[i][c], g.Mul(x, y))
				}
			}
		}
	}
	return m
}

func TestRowOperations(t *testing.T) {
	r := &random{state: 9}
	for _, g := range fields(t) {
		for _, shape := range shapes {
			m := r.matrix(g, shape[0], shape[1])
			want, pivots, _ := matrix.Canonical(g.Field(), m)
			for range 3 {
				other := r.stirred(g, m)
				have, list, e := matrix.Canonical(g.Field(), other)
				sameMatrix(t, have, e, want, "P9.7: Canonical behind row operations", g, m)
				sameList(t, list, e, pivots, "P9.7: pivots behind row operations", g, m)
			}
			rank, _ := matrix.Rank(g.Field(), m)
			k, e := matrix.Kernel(g.Field(), m)
			sameInt(t, rank+len(k.Rows), e, m.Cols, "P9.7: rank and kernel", g, m)
		}
	}
}

func TestOnlyEqualSpacesHaveEqualMatrices(t *testing.T) {
	r := &random{state: 10}
	for _, g := range small(t) {
		for range 30 {
			a, b := r.matrix(g, 2, 2), r.matrix(g, 3, 2)
			x, _, _ := matrix.Canonical(g.Field(), a)
			y, _, _ := matrix.Canonical(g.Field(), b)
			one, two := spanned(g, a), spanned(g, b)
			same := len(one) == len(two)
			for w := range one {
				same = same && two[w]
			}
			if equal(x, y) != same {
				t.Errorf("P9.7: %v: Canonical of %v and %v: equal is not %v", g.Field(), a, b, same)
			}
		}
	}
}

func TestProductLaws(t *testing.T) {
	r := &random{state: 11}
	for _, g := range fields(t) {
		f := g.Field()
		for n := range 9 {
			a, b := r.matrix(g, r.below(6), n), r.matrix(g, n, r.below(6))
			c := r.matrix(g, b.Cols, r.below(6))
			ab, _ := matrix.Mul(f, a, b)
			bc, _ := matrix.Mul(f, b, c)
			left, _ := matrix.Mul(f, ab, c)
			right, e := matrix.Mul(f, a, bc)
			sameMatrix(t, left, e, right, "P9.7: products are associative", g, a, b, c)
			x, y := r.matrix(g, n, n), r.matrix(g, n, n)
			xy, _ := matrix.Mul(f, x, y)
			dx, _ := matrix.Det(f, x)
			dy, _ := matrix.Det(f, y)
			d, e := matrix.Det(f, xy)
			sameInt(t, d, e, g.Mul(dx, dy), "P9.7: the determinant of a product", g, x, y)
			if _, e := matrix.Inverse(f, x); (e == api.OK) != (dx != 0) {
				t.Errorf("P9.7: %v: %v with the determinant %d: Inverse has the error %d", f, x, dx, e)
			}
		}
	}
}

func TestLargestMatrices(t *testing.T) {
	r := &random{state: 12}
	for _, q := range []int{2, 251, 256} {
		g := standard(t, q)
		f := g.Field()
		one, _ := matrix.Identity(256)
		m := blank(256, 256)
		for i := range m.Rows {
			m.Rows[i] = r.list(g, 256, 1)
		}
		v, e := matrix.Inverse(f, m)
		for e == api.ErrRank {
			m.Rows[r.below(256)] = r.list(g, 256, 1)
			v, e = matrix.Inverse(f, m)
		}
		p, e := matrix.Mul(f, m, v)
		sameMatrix(t, p, e, one, "P9.5: the product of m and its inverse", g)
		x := r.list(g, 256, 1)
		b, e := matrix.Vec(f, x, m)
		sameInt(t, len(b), e, 256, "P9.4: Vec", g)
		back, e := matrix.Vec(f, b, v)
		sameList(t, back, e, x, "P9.4: Vec with the inverse", g)
		k, e := matrix.Kernel(f, blank(256, 256))
		sameMatrix(t, k, e, one, "P9.3: Kernel of zeros", g)
	}
}

// disjoint reports an error unless a change of one of the rows changes none of the others.
func disjoint(t *testing.T, name string, lists ...[]int) {
	t.Helper()
	kept := make([][]int, len(lists))
	for i, l := range lists {
		kept[i] = slices.Clone(l)
	}
	for i, l := range lists {
		for _, x := range [][]int{l, append(l, -7)} {
			for j := range x {
				x[j] = -1 - j
			}
		}
		for j, other := range lists {
			if j != i && !slices.Equal(other, kept[j]) {
				t.Fatalf("Rules: %s: the lists %d and %d share memory", name, i, j)
			}
		}
		copy(l, kept[i])
	}
}

func TestResultsAreNewMemory(t *testing.T) {
	f := standard(t, 5).Field()
	block := []int{1, 2, 0, 3, 4, 0, 1, 1, 1, 0, 0, 0}
	m := api.Matrix{Cols: 3, Rows: [][]int{block[:3], block[3:6], block[6:9]}}
	x := append(make([]int, 0, 9), 1, 2, 3)
	with := func(name string, l ...[]int) {
		disjoint(t, name, append(append(l, x), slices.Clip(m.Rows[0]), slices.Clip(m.Rows[1]), slices.Clip(m.Rows[2]))...)
	}
	c, pivots, _ := matrix.Canonical(f, m)
	with("Canonical", append(c.Rows, pivots)...)
	u, r, _ := matrix.Transform(f, m)
	with("Transform", append(u.Rows, r.Rows...)...)
	y, _ := matrix.Vec(f, x, m)
	with("Vec", y)
	y, _ = matrix.Solve(f, m, x)
	with("Solve", y)
	for name, have := range map[string]api.Matrix{
		"Kernel":    first(matrix.Kernel(f, m)),
		"Mul":       first(matrix.Mul(f, m, m)),
		"Transpose": first(matrix.Transpose(f, m)),
		"Inverse":   first(matrix.Inverse(f, m)),
		"Columns":   first(matrix.Columns(f, m, []int{0, 0})),
		"Stack":     first(matrix.Stack(f, m, m)),
		"Beside":    first(matrix.Beside(f, m, m)),
		"Identity":  first(matrix.Identity(3)),
	} {
		with(name, have.Rows...)
	}
	if !slices.Equal(block, []int{1, 2, 0, 3, 4, 0, 1, 1, 1, 0, 0, 0}) {
		t.Errorf("Rules: an argument is changed: %v", block)
	}
}

func first(m api.Matrix, _ api.Errno) api.Matrix { return m }
