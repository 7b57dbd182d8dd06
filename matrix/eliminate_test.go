package matrix_test

import (
	"testing"

	"codewright/api"
	"codewright/field"
	"codewright/matrix"
)

// shapes are numbers of rows and columns.
var shapes = [][2]int{{0, 0}, {0, 1}, {1, 0}, {3, 0}, {0, 3}, {1, 1}, {1, 4}, {4, 1}, {2, 2}, {2, 3}, {3, 2}, {3, 3}, {4, 4}, {3, 6}, {6, 3}, {5, 7}, {9, 9}, {12, 8}, {7, 20}}

func TestElimination(t *testing.T) {
	r := &random{state: 1}
	for _, g := range fields(t) {
		for _, shape := range shapes {
			for range 12 {
				m := r.matrix(g, shape[0], shape[1])
				kept := copied(m)
				eliminated(t, g, m)
				if !equal(m, kept) {
					t.Errorf("Rules: an argument is changed: %v", kept)
				}
			}
		}
	}
}

// eliminated reports an error unless Transform, Canonical and Rank are right for m.
func eliminated(t *testing.T, g *field.GF, m api.Matrix) {
	t.Helper()
	f := g.Field()
	wantT, wantR, rank := followed(g, m)
	u, r, e := matrix.Transform(f, m)
	sameMatrix(t, u, e, wantT, "P9.2: t of Transform", g, m)
	sameMatrix(t, r, e, wantR, "P9.2: r of Transform", g, m)
	sameMatrix(t, product(g, u, m), e, r, "P9.2: t m", g, m)
	c, pivots, e := matrix.Canonical(f, m)
	sameMatrix(t, c, e, api.Matrix{Cols: m.Cols, Rows: wantR.Rows[:rank]}, "P9.2: Canonical", g, m)
	want, ok := echelon(c)
	if !ok {
		t.Errorf("P9.2: %v: Canonical(%v): %v is not canonical", f, m, c)
	}
	sameList(t, pivots, e, want, "P9.2: pivots", g, m)
	n, e := matrix.Rank(f, m)
	sameInt(t, n, e, rank, "P9.2: Rank", g, m)
}

// TestSpans compares with all combinations of rows, and with all words.
func TestSpans(t *testing.T) {
	r := &random{state: 2}
	for _, g := range small(t) {
		for rows := range 4 {
			for cols := range 4 {
				for range 6 {
					m := r.matrix(g, rows, cols)
					spans(t, g, m)
					solves(t, g, m, r)
				}
			}
		}
	}
}

// spans reports an error unless Canonical and Kernel of m have the right row spaces.
func spans(t *testing.T, g *field.GF, m api.Matrix) {
	t.Helper()
	f := g.Field()
	c, _, _ := matrix.Canonical(f, m)
	have, want := spanned(g, c), spanned(g, m)
	for w := range want {
		if !have[w] || len(have) != len(want) {
			t.Errorf("P9.2: %v: Canonical(%v) has another row space", f, m)
			break
		}
	}
	k, e := matrix.Kernel(f, m)
	if _, ok := echelon(k); e != api.OK || k.Cols != m.Cols || !ok {
		t.Errorf("P9.3: %v: Kernel(%v): have %v and error %d, which is not canonical", f, m, k, e)
	}
	have, count := spanned(g, k), 0
	words(g, m.Cols, func(x []int) {
		zero := true
		for _, row := range m.Rows {
			zero = zero && dot(g, x, row) == 0
		}
		if zero {
			count++
		}
		if have[key(x)] != zero {
			t.Errorf("P9.3: %v: Kernel(%v): %v is in it: %v", f, m, x, !zero)
		}
	})
	if count != len(have) {
		t.Errorf("P9.3: %v: Kernel(%v) has %d words, want %d", f, m, len(have), count)
	}
}

// solves reports an error unless Solve is right for m and right sides with solutions, and others.
func solves(t *testing.T, g *field.GF, m api.Matrix, r *random) {
	t.Helper()
	_, pivots, _ := matrix.Canonical(g.Field(), m)
	free := map[int]bool{}
	for c := range m.Cols {
		free[c] = true
	}
	for _, p := range pivots {
		delete(free, p)
	}
	for range 5 {
		b := r.list(g, len(m.Rows), 1)
		var want [][]int
		any := false
		words(g, m.Cols, func(x []int) {
			is, basic := true, true
			for i, row := range m.Rows {
				is = is && dot(g, x, row) == b[i]
			}
			for c, y := range x {
				basic = basic && (y == 0 || !free[c])
			}
			any = any || is
			if is && basic {
				want = append(want, append([]int{}, x...))
			}
		})
		x, e := matrix.Solve(g.Field(), m, b)
		if !any && (e != api.ErrNone || len(x) != 0) {
			t.Errorf("P9.3: %v: Solve(%v, %v): have %v and error %d, want ErrNone", g.Field(), m, b, x, e)
		}
		if any {
			sameList(t, x, e, want[0], "P9.3: Solve", g, m, b)
		}
	}
}

func TestKernelAndSolveOfLargerMatrices(t *testing.T) {
	r := &random{state: 3}
	for _, g := range fields(t) {
		for _, shape := range shapes {
			m := r.matrix(g, shape[0], shape[1])
			k, e := matrix.Kernel(g.Field(), m)
			_, ok := echelon(k)
			_, _, rank := followed(g, m)
			if e != api.OK || !ok || k.Cols != m.Cols || len(k.Rows) != m.Cols-rank {
				t.Errorf("P9.3: %v: Kernel(%v): have %v and error %d", g.Field(), m, k, e)
			}
			for _, x := range k.Rows {
				sameList(t, combined(g, x, transposed(m)), api.OK, make([]int, len(m.Rows)), "P9.3: the products of the kernel", g, m, x)
			}
			solvesProduct(t, g, m, r.list(g, m.Cols, 1))
		}
	}
}

// transposed returns the matrix of the columns of m.
func transposed(m api.Matrix) api.Matrix {
	out := api.Matrix{Cols: len(m.Rows)}
	for c := range m.Cols {
		out.Rows = append(out.Rows, column(m, c))
	}
	return out
}

// solvesProduct reports an error unless Solve is right for m and its products with x.
func solvesProduct(t *testing.T, g *field.GF, m api.Matrix, x []int) {
	t.Helper()
	b := combined(g, x, transposed(m))
	kept := append([]int{}, b...)
	have, e := matrix.Solve(g.Field(), m, b)
	if e != api.OK || len(have) != m.Cols {
		t.Fatalf("P9.3: %v: Solve(%v, %v): have %v and error %d", g.Field(), m, b, have, e)
	}
	sameList(t, combined(g, have, transposed(m)), e, b, "P9.3: the products of Solve", g, m)
	_, pivots, _ := matrix.Canonical(g.Field(), m)
	for c, y := range have {
		at := 0
		for at < len(pivots) && pivots[at] != c {
			at++
		}
		if at == len(pivots) && y != 0 {
			t.Errorf("P9.3: %v: Solve(%v, %v): have %v, which is not 0 at %d", g.Field(), m, b, have, c)
		}
	}
	sameList(t, b, api.OK, kept, "Rules: an argument", g)
}

func TestInverseAndDet(t *testing.T) {
	r := &random{state: 4}
	for _, g := range fields(t) {
		for n := range 6 {
			for range 12 {
				m := r.matrix(g, n, n)
				kept := copied(m)
				det := expanded(g, m.Rows)
				have, e := matrix.Det(g.Field(), m)
				sameInt(t, have, e, det, "P9.5: Det", g, m)
				v, e := matrix.Inverse(g.Field(), m)
				if det == 0 {
					failed(t, map[string]result{"Inverse": ofMatrix(v, e)}, api.ErrRank, "P9.5", g.Field(), m)
					continue
				}
				one, _ := matrix.Identity(n)
				sameMatrix(t, product(g, v, m), e, one, "P9.5: the product of the inverse and m", g, m)
				sameMatrix(t, product(g, m, v), e, one, "P9.5: the product of m and its inverse", g, m)
				if !equal(m, kept) {
					t.Errorf("Rules: an argument is changed: %v", kept)
				}
			}
		}
	}
}

func TestExchangesAndSigns(t *testing.T) {
	g := standard(t, 7)
	for _, x := range []struct {
		m   api.Matrix
		det int
	}{
		{rows(2, "01", "10"), 6},
		{rows(3, "010", "001", "100"), 1},
		{rows(3, "001", "010", "100"), 6},
		{rows(4, "0100", "1000", "0001", "0010"), 1},
		{rows(2, "03", "20"), 1},
		{rows(1, "5"), 5},
		{rows(1, "0"), 0},
		{rows(2, "11", "11"), 0},
		{rows(0), 1},
	} {
		have, e := matrix.Det(g.Field(), x.m)
		sameInt(t, have, e, x.det, "P9.5: Det", g, x.m)
	}
	u, r, e := matrix.Transform(g.Field(), rows(2, "00", "03", "10"))
	sameMatrix(t, u, e, rows(3, "001", "050", "100"), "P9.2: t of Transform", g)
	sameMatrix(t, r, e, rows(2, "10", "01", "00"), "P9.2: r of Transform", g)
	u, r, e = matrix.Transform(g.Field(), rows(0, "", ""))
	sameMatrix(t, u, e, rows(2, "10", "01"), "P9.2: t of Transform without columns", g)
	sameMatrix(t, r, e, rows(0, "", ""), "P9.2: r of Transform without columns", g)
}

func TestExamples(t *testing.T) {
	g := standard(t, 2)
	m := rows(3, "110", "011", "101")
	c, pivots, e := matrix.Canonical(g.Field(), m)
	sameMatrix(t, c, e, rows(3, "101", "011"), "Examples: Canonical", g)
	sameList(t, pivots, e, []int{0, 1}, "Examples: pivots", g)
	n, e := matrix.Rank(g.Field(), m)
	sameInt(t, n, e, 2, "Examples: Rank", g)
	k, e := matrix.Kernel(g.Field(), m)
	sameMatrix(t, k, e, rows(3, "111"), "Examples: Kernel", g)
	five := standard(t, 5)
	det, e := matrix.Det(five.Field(), rows(2, "12", "34"))
	sameInt(t, det, e, 3, "Examples: Det", five)
	v, e := matrix.Inverse(five.Field(), rows(2, "12", "34"))
	sameMatrix(t, v, e, rows(2, "31", "42"), "Examples: Inverse", five)
}
