package matrix_test

import (
	"math"
	"slices"
	"testing"

	"codewright/api"
	"codewright/field"
	"codewright/matrix"
)

// random is a generator of numbers that are the same in each run.
type random struct{ state uint64 }

func (r *random) below(n int) int {
	r.state = r.state*6364136223846793005 + 1442695040888963407
	return int(r.state >> 33 % uint64(n))
}

// list returns n elements; about one in sparse of them is not 0.
func (r *random) list(g *field.GF, n, sparse int) []int {
	l := make([]int, n)
	for i := range l {
		if r.below(sparse) == 0 {
			l[i] = r.below(g.Order())
		}
	}
	return l
}

// matrix returns a matrix with this many rows and columns. In some of them most entries are 0, and in some there are rows that are combinations of others.
func (r *random) matrix(g *field.GF, rows, cols int) api.Matrix {
	m := api.Matrix{Cols: cols}
	sparse := 1 + r.below(3)
	for i := range rows {
		row := r.list(g, cols, sparse)
		if i > 0 && r.below(3) == 0 {
			x := r.below(g.Order())
			for c, y := range m.Rows[r.below(i)] {
				row[c] = g.Mul(x, y)
			}
		}
		m.Rows = append(m.Rows, row)
	}
	return m
}

// standard returns the standard field of order q.
func standard(t *testing.T, q int) *field.GF {
	t.Helper()
	f, e := field.Standard(q)
	if e != api.OK {
		t.Fatal(q, e)
	}
	return made(t, f)
}

// made returns the field that f describes.
func made(t *testing.T, f api.Field) *field.GF {
	t.Helper()
	g, e := field.New(f)
	if e != api.OK {
		t.Fatal(f, e)
	}
	return g
}

// fields returns standard fields of many orders, and two others.
func fields(t *testing.T) []*field.GF {
	t.Helper()
	var list []*field.GF
	for _, q := range []int{2, 3, 4, 5, 7, 8, 9, 16, 25, 27, 64, 81, 128, 243, 251, 256} {
		list = append(list, standard(t, q))
	}
	for _, f := range []api.Field{{P: 3, M: 2, Mod: []int{2, 1}}, {P: 2, M: 4, Mod: []int{1, 1, 1, 1}}} {
		list = append(list, made(t, f))
	}
	return list
}

// small returns fields that are small enough to go through all short words.
func small(t *testing.T) []*field.GF {
	t.Helper()
	var list []*field.GF
	for _, q := range []int{2, 3, 4, 5, 8, 9} {
		list = append(list, standard(t, q))
	}
	return list
}

// noFields are descriptions of no field.
var noFields = []api.Field{{}, {P: 4, M: 1}, {P: 2, M: 0}, {P: 2, M: 2}, {P: 2, M: 2, Mod: []int{0, 1}}, {P: 257, M: 1}, {P: 2, M: 9, Mod: make([]int, 9)}, {P: -1, M: 1}}

// strangers are ints that are not elements of g.
func strangers(g *field.GF) []int {
	return []int{-1, g.Order(), g.Order() + 1, 1 << 32, math.MaxInt, math.MinInt}
}

// rows returns a matrix with these rows, the digits of which are the entries.
func rows(cols int, texts ...string) api.Matrix {
	m := api.Matrix{Cols: cols}
	for _, text := range texts {
		row := []int{}
		for _, digit := range text {
			row = append(row, int(digit-'0'))
		}
		m.Rows = append(m.Rows, row)
	}
	return m
}

// copied returns m in new memory.
func copied(m api.Matrix) api.Matrix {
	out := api.Matrix{Cols: m.Cols}
	for _, row := range m.Rows {
		out.Rows = append(out.Rows, slices.Clone(row))
	}
	return out
}

// equal reports whether a and b have the same Cols and the same entries.
func equal(a, b api.Matrix) bool {
	return a.Cols == b.Cols && slices.EqualFunc(a.Rows, b.Rows, slices.Equal)
}

// isZero reports whether m is the zero value, but for an empty list.
func isZero(m api.Matrix) bool {
	return m.Cols == 0 && len(m.Rows) == 0
}

// words calls yield with every list of n elements.
func words(g *field.GF, n int, yield func([]int)) {
	list := make([]int, n)
	var fill func(int)
	fill = func(i int) {
		if i == n {
			yield(list)
			return
		}
		for x := range g.Elements() {
			list[i] = x
			fill(i + 1)
		}
	}
	fill(0)
}

// dot returns the sum of the products of the entries with the same index.
func dot(g *field.GF, a, b []int) int {
	sum := 0
	for i, x := range a {
		sum = g.Add(sum, g.Mul(x, b[i]))
	}
	return sum
}

// column returns the column c of m.
func column(m api.Matrix, c int) []int {
	var list []int
	for _, row := range m.Rows {
		list = append(list, row[c])
	}
	return list
}

// combined returns the sum of the rows of m, each multiplied by the entry of x with its index, column by column.
func combined(g *field.GF, x []int, m api.Matrix) []int {
	var list []int
	for c := range m.Cols {
		list = append(list, dot(g, x, column(m, c)))
	}
	return list
}

// product returns the product of a and b.
func product(g *field.GF, a, b api.Matrix) api.Matrix {
	out := api.Matrix{Cols: b.Cols}
	for _, row := range a.Rows {
		out.Rows = append(out.Rows, combined(g, row, b))
	}
	return out
}

// key returns a text that differs for different words.
func key(word []int) string {
	text := make([]byte, len(word))
	for i, x := range word {
		text[i] = byte(x)
	}
	return string(text)
}

// spanned returns all combinations of the rows of m.
func spanned(g *field.GF, m api.Matrix) map[string]bool {
	set := map[string]bool{}
	words(g, len(m.Rows), func(x []int) { set[key(combined(g, x, m))] = true })
	return set
}

// echelon returns the pivot columns of m, or false unless m is canonical, as the chapter defines it.
func echelon(m api.Matrix) ([]int, bool) {
	pivots := []int{}
	for i, row := range m.Rows {
		at := 0
		for at < len(row) && row[at] == 0 {
			at++
		}
		if at == len(row) || row[at] != 1 || i > 0 && at <= pivots[i-1] {
			return nil, false
		}
		for j, x := range column(m, at) {
			if j != i && x != 0 {
				return nil, false
			}
		}
		pivots = append(pivots, at)
	}
	return pivots, true
}

// followed returns what the elimination, step by step as the chapter tells it, leaves of m with the identity matrix beside it, and the number of pivots.
func followed(g *field.GF, m api.Matrix) (t, r api.Matrix, rank int) {
	n := len(m.Rows)
	both := copied(m)
	for i := range both.Rows {
		for j := range n {
			x := 0
			if i == j {
				x = 1
			}
			both.Rows[i] = append(both.Rows[i], x)
		}
	}
	l := both.Rows
	for c := 0; c < m.Cols && rank < n; c++ {
		at := rank
		for at < n && l[at][c] == 0 {
			at++
		}
		if at == n {
			continue
		}
		l[at], l[rank] = l[rank], l[at]
		divisor := l[rank][c]
		for k, x := range l[rank] {
			l[rank][k], _ = g.Div(x, divisor)
		}
		for i := range n {
			if factor := l[i][c]; i != rank {
				for k, x := range l[rank] {
					l[i][k] = g.Sub(l[i][k], g.Mul(factor, x))
				}
			}
		}
		rank++
	}
	t.Cols, r.Cols = n, m.Cols
	for _, row := range l {
		r.Rows = append(r.Rows, row[:m.Cols])
		t.Rows = append(t.Rows, row[m.Cols:])
	}
	return t, r, rank
}

// expanded returns the determinant of m by expansion along its first row.
func expanded(g *field.GF, l [][]int) int {
	if len(l) == 0 {
		return 1
	}
	sum := 0
	for c, x := range l[0] {
		var rest [][]int
		for _, row := range l[1:] {
			rest = append(rest, slices.Delete(slices.Clone(row), c, c+1))
		}
		term := g.Mul(x, expanded(g, rest))
		if c%2 == 1 {
			term = g.Neg(term)
		}
		sum = g.Add(sum, term)
	}
	return sum
}

// sameMatrix reports an error unless have is want, and e is OK.
func sameMatrix(t *testing.T, have api.Matrix, e api.Errno, want api.Matrix, promise string, g *field.GF, args ...any) {
	t.Helper()
	if e != api.OK || !equal(have, want) {
		t.Errorf("%s: %v: %v: have %v and error %d, want %v", promise, g.Field(), args, have, e, want)
	}
}

// sameList reports an error unless have is want, and e is OK.
func sameList(t *testing.T, have []int, e api.Errno, want []int, promise string, g *field.GF, args ...any) {
	t.Helper()
	if e != api.OK || !slices.Equal(have, want) {
		t.Errorf("%s: %v: %v: have %v and error %d, want %v", promise, g.Field(), args, have, e, want)
	}
}

// sameInt reports an error unless have is want, and e is OK.
func sameInt(t *testing.T, have int, e api.Errno, want int, promise string, g *field.GF, args ...any) {
	t.Helper()
	if e != api.OK || have != want {
		t.Errorf("%s: %v: %v: have %d and error %d, want %d", promise, g.Field(), args, have, e, want)
	}
}

// result is what a function returns: its error, and whether all else is the zero value.
type result struct {
	e    api.Errno
	zero bool
}

func ofMatrix(m api.Matrix, e api.Errno) result { return result{e, isZero(m)} }
func ofList(l []int, e api.Errno) result        { return result{e, len(l) == 0} }
func ofInt(n int, e api.Errno) result           { return result{e, n == 0} }

// unary returns what the functions of one matrix return for m, with no other argument that has an error of its own.
func unary(f api.Field, m api.Matrix) map[string]result {
	c, pivots, e := matrix.Canonical(f, m)
	u, r, k := matrix.Transform(f, m)
	return map[string]result{
		"Check":     {matrix.Check(f, m), true},
		"Canonical": {e, isZero(c) && len(pivots) == 0},
		"Transform": {k, isZero(u) && isZero(r)},
		"Rank":      ofInt(matrix.Rank(f, m)),
		"Kernel":    ofMatrix(matrix.Kernel(f, m)),
		"Solve":     ofList(matrix.Solve(f, m, []int{-1})),
		"Vec":       ofList(matrix.Vec(f, []int{-1, -1, -1}, m)),
		"Transpose": ofMatrix(matrix.Transpose(f, m)),
		"Inverse":   ofMatrix(matrix.Inverse(f, m)),
		"Det":       ofInt(matrix.Det(f, m)),
		"Columns":   ofMatrix(matrix.Columns(f, m, make([]int, 257))),
		"Stack":     ofMatrix(matrix.Stack(f, m)),
		"Beside":    ofMatrix(matrix.Beside(f, m, m)),
		"Mul":       ofMatrix(matrix.Mul(f, m, m)),
	}
}

// binary returns what the functions of two matrices return for a and b.
func binary(f api.Field, a, b api.Matrix) map[string]result {
	return map[string]result{
		"Mul":    ofMatrix(matrix.Mul(f, a, b)),
		"Stack":  ofMatrix(matrix.Stack(f, a, b)),
		"Beside": ofMatrix(matrix.Beside(f, a, b)),
	}
}

// failed reports an error unless all results have the error want, and no value.
func failed(t *testing.T, results map[string]result, want api.Errno, promise string, args ...any) {
	t.Helper()
	for name, r := range results {
		if r.e != want || !r.zero {
			t.Errorf("%s: %s of %v: have error %d, want error %d and no value", promise, name, args, r.e, want)
		}
	}
}
