package matrix_test

import (
	"math"
	"slices"
	"testing"

	"codewright/api"
	"codewright/matrix"
)

// misshapen returns matrices whose shape is wrong over every field.
func misshapen() []api.Matrix {
	return []api.Matrix{
		{Cols: -1},
		{Cols: math.MinInt},
		{Cols: 257},
		{Cols: math.MaxInt},
		{Cols: 257, Rows: [][]int{make([]int, 257)}},
		{Rows: make([][]int, 257)},
		{Cols: 2, Rows: [][]int{{1}}},
		{Cols: 2, Rows: [][]int{{1, 0}, {1, 0, 0}}},
		{Cols: 2, Rows: [][]int{{1, 0}, nil, {1, 1}}},
		{Cols: 1, Rows: [][]int{{-1}, {}}},
		{Cols: 0, Rows: [][]int{{0}}},
	}
}

func TestCheck(t *testing.T) {
	for _, g := range fields(t) {
		f := g.Field()
		for _, m := range []api.Matrix{{}, {Cols: 256}, rows(0, "", ""), rows(3), {Rows: make([][]int, 256)}, rows(2, "10", "01", "11"), {Cols: 1, Rows: [][]int{{g.Order() - 1}, {0}}}} {
			if e := matrix.Check(f, m); e != api.OK {
				t.Errorf("P9.1: %v: Check(%v): %d, want OK", f, m, e)
			}
		}
		for _, m := range misshapen() {
			failed(t, unary(f, m), api.ErrShape, "P9.1", f, m)
		}
		for _, x := range strangers(g) {
			for at := range 4 {
				m := rows(2, "10", "01")
				m.Rows[at/2][at%2] = x
				failed(t, unary(f, m), api.ErrElement, "P9.1", f, m)
			}
		}
	}
}

func TestFieldsComeFirst(t *testing.T) {
	for _, f := range noFields {
		for _, m := range append(misshapen(), rows(1, "9"), rows(1, "1"), rows(2, "00")) {
			failed(t, unary(f, m), api.ErrField, "P9.1", f, m)
			failed(t, binary(f, m, rows(1, "1")), api.ErrField, "P9.1", f, m)
			failed(t, binary(f, rows(1, "1"), m), api.ErrField, "P9.1", f, m)
		}
		failed(t, map[string]result{"Stack": ofMatrix(matrix.Stack(f))}, api.ErrField, "P9.1", f)
	}
}

func TestTheFirstWrongMatrixCounts(t *testing.T) {
	f := standard(t, 3).Field()
	good, shape, entry := rows(5, "10000"), rows(2, "1"), rows(1, "3")
	failed(t, binary(f, shape, entry), api.ErrShape, "P9.1")
	failed(t, binary(f, entry, shape), api.ErrElement, "P9.1")
	failed(t, binary(f, good, shape), api.ErrShape, "P9.1")
	failed(t, binary(f, good, entry), api.ErrElement, "P9.1")
	failed(t, map[string]result{
		"Stack": ofMatrix(matrix.Stack(f, rows(1), good, good, entry, shape)),
	}, api.ErrElement, "P9.1")
	failed(t, map[string]result{
		"Stack": ofMatrix(matrix.Stack(f, rows(1), good, good, shape, entry)),
	}, api.ErrShape, "P9.1")
}

func TestVecAndMul(t *testing.T) {
	r := &random{state: 5}
	for _, g := range fields(t) {
		f := g.Field()
		for _, shape := range shapes {
			m := r.matrix(g, shape[0], shape[1])
			x := r.list(g, shape[0], 2)
			keptM, keptX := copied(m), slices.Clone(x)
			have, e := matrix.Vec(f, x, m)
			sameList(t, have, e, combined(g, x, m), "P9.4: Vec", g, x, m)
			for _, other := range shapes {
				b := r.matrix(g, other[0], other[1])
				p, e := matrix.Mul(f, m, b)
				if m.Cols == other[0] {
					sameMatrix(t, p, e, product(g, m, b), "P9.4: Mul", g, m, b)
				} else {
					failed(t, map[string]result{"Mul": ofMatrix(p, e)}, api.ErrMatch, "P9.4", m, b)
				}
			}
			u, e := matrix.Transpose(f, m)
			sameMatrix(t, u, e, transposed(m), "P9.4: Transpose", g, m)
			if !equal(m, keptM) || !slices.Equal(x, keptX) {
				t.Errorf("Rules: an argument is changed: %v, %v", keptM, keptX)
			}
		}
	}
}

func TestListsThatDoNotFit(t *testing.T) {
	for _, g := range fields(t) {
		f, m := g.Field(), rows(3, "110", "011")
		for _, x := range [][]int{nil, {}, {1}, {1, 1, 1}, {-1}, {g.Order(), 0, 0}} {
			failed(t, map[string]result{"Vec": ofList(matrix.Vec(f, x, m))}, api.ErrShape, "P9.4", x)
			failed(t, map[string]result{"Solve": ofList(matrix.Solve(f, m, x))}, api.ErrShape, "P9.3", x)
		}
		for _, y := range strangers(g) {
			for _, x := range [][]int{{y, 0}, {0, y}, {1, y}} {
				failed(t, map[string]result{"Vec": ofList(matrix.Vec(f, x, m))}, api.ErrElement, "P9.4", x)
				failed(t, map[string]result{"Solve": ofList(matrix.Solve(f, m, x))}, api.ErrElement, "P9.3", x)
				zero := rows(3, "000", "000")
				failed(t, map[string]result{"Solve": ofList(matrix.Solve(f, zero, x))}, api.ErrElement, "P9.3", x)
			}
		}
		have, e := matrix.Vec(f, nil, rows(2))
		sameList(t, have, e, []int{0, 0}, "P9.4: Vec without rows", g)
		have, e = matrix.Solve(f, rows(2), nil)
		sameList(t, have, e, []int{0, 0}, "P9.3: Solve without rows", g)
		have, e = matrix.Solve(f, rows(0, "", ""), []int{0, 0})
		sameList(t, have, e, nil, "P9.3: Solve without columns", g)
		failed(t, map[string]result{"Solve": ofList(matrix.Solve(f, rows(0, "", ""), []int{0, 1}))}, api.ErrNone, "P9.3")
	}
}

func TestMatricesThatAreNotSquare(t *testing.T) {
	for _, g := range fields(t) {
		for _, shape := range shapes {
			m := api.Matrix{Cols: shape[1], Rows: make([][]int, shape[0])}
			for i := range m.Rows {
				m.Rows[i] = make([]int, m.Cols)
			}
			if shape[0] != shape[1] {
				failed(t, map[string]result{
					"Inverse": ofMatrix(matrix.Inverse(g.Field(), m)),
					"Det":     ofInt(matrix.Det(g.Field(), m)),
				}, api.ErrShape, "P9.5", shape)
			}
		}
	}
}

func TestColumns(t *testing.T) {
	r := &random{state: 6}
	for _, g := range fields(t) {
		f := g.Field()
		for _, shape := range shapes {
			m := r.matrix(g, shape[0], shape[1])
			for _, n := range []int{0, 1, 2, 5, 256} {
				if m.Cols == 0 && n > 0 {
					continue
				}
				set := make([]int, n)
				for i := range set {
					set[i] = r.below(m.Cols)
				}
				kept := slices.Clone(set)
				want := api.Matrix{Cols: n, Rows: make([][]int, len(m.Rows))}
				for i, row := range m.Rows {
					for _, c := range set {
						want.Rows[i] = append(want.Rows[i], row[c])
					}
				}
				have, e := matrix.Columns(f, m, set)
				sameMatrix(t, have, e, want, "P9.6: Columns", g, m, set)
				sameList(t, set, api.OK, kept, "Rules: an argument", g)
			}
			for _, x := range []int{-1, m.Cols, m.Cols + 1, 256, math.MaxInt, math.MinInt} {
				for _, set := range [][]int{{x}, append(make([]int, 255), x)} {
					failed(t, map[string]result{"Columns": ofMatrix(matrix.Columns(f, m, set))}, api.ErrRange, "P9.6", m, x)
				}
				set := append(make([]int, 256), x)
				failed(t, map[string]result{"Columns": ofMatrix(matrix.Columns(f, m, set))}, api.ErrBig, "P9.6", m, x)
			}
			failed(t, map[string]result{"Columns": ofMatrix(matrix.Columns(f, m, make([]int, 1000)))}, api.ErrBig, "P9.6", m)
		}
	}
}

// blank returns a matrix of zeros.
func blank(rows, cols int) api.Matrix {
	m := api.Matrix{Cols: cols, Rows: make([][]int, rows)}
	for i := range m.Rows {
		m.Rows[i] = make([]int, cols)
	}
	return m
}

func TestStack(t *testing.T) {
	r := &random{state: 7}
	for _, g := range fields(t) {
		f := g.Field()
		none, e := matrix.Stack(f)
		sameMatrix(t, none, e, api.Matrix{}, "P9.6: Stack of none", g)
		for n := range 5 {
			cols := r.below(5)
			want := api.Matrix{}
			var l []api.Matrix
			for range n {
				m := r.matrix(g, r.below(4), cols)
				l = append(l, m)
				want.Cols = cols
				want.Rows = append(want.Rows, m.Rows...)
			}
			want = copied(want)
			have, e := matrix.Stack(f, l...)
			sameMatrix(t, have, e, want, "P9.6: Stack", g, l)
			for _, other := range []int{cols + 1, 256} {
				if n > 0 {
					bad := append(slices.Clone(l), blank(1, other))
					failed(t, map[string]result{"Stack": ofMatrix(matrix.Stack(f, bad...))}, api.ErrMatch, "P9.6", bad)
					slices.Reverse(bad)
					failed(t, map[string]result{"Stack": ofMatrix(matrix.Stack(f, bad...))}, api.ErrMatch, "P9.6", bad)
				}
			}
		}
	}
}

func TestStackOfManyRows(t *testing.T) {
	g := standard(t, 2)
	f := g.Field()
	have, e := matrix.Stack(f, blank(255, 2), rows(2), rows(2, "11"))
	want := blank(256, 2)
	want.Rows[255] = []int{1, 1}
	sameMatrix(t, have, e, want, "P9.6: Stack of MaxRows rows", g)
	for _, l := range [][]api.Matrix{{blank(256, 1), blank(1, 1)}, {blank(1, 1), blank(256, 1)}, {blank(128, 1), blank(128, 1), blank(1, 1)}, slices.Repeat([]api.Matrix{blank(1, 1)}, 257)} {
		failed(t, map[string]result{"Stack": ofMatrix(matrix.Stack(f, l...))}, api.ErrBig, "P9.6", len(l))
		l = append(l, rows(2))
		failed(t, map[string]result{"Stack": ofMatrix(matrix.Stack(f, l...))}, api.ErrMatch, "P9.6", len(l))
	}
	have, e = matrix.Stack(f, slices.Repeat([]api.Matrix{rows(3)}, 1000)...)
	sameMatrix(t, have, e, rows(3), "P9.6: Stack of matrices without rows", g)
}

func TestBeside(t *testing.T) {
	r := &random{state: 8}
	for _, g := range fields(t) {
		f := g.Field()
		for _, shape := range shapes {
			for _, other := range shapes {
				a, b := r.matrix(g, shape[0], shape[1]), r.matrix(g, other[0], other[1])
				have, e := matrix.Beside(f, a, b)
				if shape[0] != other[0] {
					failed(t, map[string]result{"Beside": ofMatrix(have, e)}, api.ErrMatch, "P9.6", a, b)
					continue
				}
				want := copied(a)
				want.Cols += b.Cols
				for i := range want.Rows {
					want.Rows[i] = append(want.Rows[i], b.Rows[i]...)
				}
				sameMatrix(t, have, e, want, "P9.6: Beside", g, a, b)
			}
		}
		failed(t, map[string]result{
			"Beside": ofMatrix(matrix.Beside(f, blank(2, 256), blank(1, 256))),
		}, api.ErrMatch, "P9.6")
		failed(t, map[string]result{
			"Beside": ofMatrix(matrix.Beside(f, blank(1, 256), blank(1, 1))),
		}, api.ErrBig, "P9.6")
		failed(t, map[string]result{
			"Beside": ofMatrix(matrix.Beside(f, rows(1), rows(256))),
		}, api.ErrBig, "P9.6")
		have, e := matrix.Beside(f, blank(2, 100), blank(2, 156))
		sameMatrix(t, have, e, blank(2, 256), "P9.6: Beside with MaxCols columns", g)
	}
}

func TestIdentity(t *testing.T) {
	g := standard(t, 2)
	for n := range 257 {
		want := blank(n, n)
		for i := range n {
			want.Rows[i][i] = 1
		}
		have, e := matrix.Identity(n)
		sameMatrix(t, have, e, want, "P9.6: Identity", g, n)
	}
	for _, n := range []int{-1, 257, 1000, math.MaxInt, math.MinInt} {
		failed(t, map[string]result{"Identity": ofMatrix(matrix.Identity(n))}, api.ErrRange, "P9.6", n)
	}
}
