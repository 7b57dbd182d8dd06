package space_test

import (
	"math"
	"slices"
	"testing"

	"codewright/api"
	"codewright/field"
	"codewright/matrix"
	"codewright/space"
)

// random is a generator of numbers that are the same in each run.
type random struct{ state uint64 }

func (r *random) below(n int) int {
	r.state = r.state*6364136223846793005 + 1442695040888963407
	return int(r.state >> 33 % uint64(n))
}

// list returns n elements; about one in sparse of them is not 0.
func (r *random) list(g *field.GF, n, sparse int) []int {
	l := make([]int, n)
	for i := range l {
		if r.below(sparse) == 0 {
			l[i] = r.below(g.Order())
		}
	}
	return l
}

// standard returns the standard field of order q.
func standard(t *testing.T, q int) *field.GF {
	t.Helper()
	f, e := field.Standard(q)
	if e != api.OK {
		t.Fatal(q, e)
	}
	return made(t, f)
}

// made returns the field that f describes.
func made(t *testing.T, f api.Field) *field.GF {
	t.Helper()
	g, e := field.New(f)
	if e != api.OK {
		t.Fatal(f, e)
	}
	return g
}

// fields returns standard fields of many orders, and two others.
func fields(t *testing.T) []*field.GF {
	t.Helper()
	var list []*field.GF
	for _, q := range []int{2, 3, 4, 5, 7, 8, 9, 16, 25, 27, 64, 81, 128, 243, 251, 256} {
		list = append(list, standard(t, q))
	}
	for _, f := range []api.Field{{P: 3, M: 2, Mod: []int{2, 1}}, {P: 2, M: 4, Mod: []int{1, 1, 1, 1}}} {
		list = append(list, made(t, f))
	}
	return list
}

// small returns fields that are small enough to go through all short words.
func small(t *testing.T) []*field.GF {
	t.Helper()
	var list []*field.GF
	for _, q := range []int{2, 3, 4, 5, 8, 9} {
		list = append(list, standard(t, q))
	}
	return list
}

// strangers are ints that are not elements of g.
func strangers(g *field.GF) []int {
	return []int{-1, g.Order(), g.Order() + 1, 1 << 32, math.MaxInt, math.MinInt}
}

// rows returns a matrix with these rows, the digits of which are the entries.
func rows(cols int, texts ...string) api.Matrix {
	m := api.Matrix{Cols: cols}
	for _, text := range texts {
		row := []int{}
		for _, digit := range text {
			row = append(row, int(digit-'0'))
		}
		m.Rows = append(m.Rows, row)
	}
	return m
}

// copied returns m in new memory.
func copied(m api.Matrix) api.Matrix {
	out := api.Matrix{Cols: m.Cols}
	for _, row := range m.Rows {
		out.Rows = append(out.Rows, slices.Clone(row))
	}
	return out
}

// equal reports whether a and b have the same Cols and the same entries.
func equal(a, b api.Matrix) bool {
	return a.Cols == b.Cols && slices.EqualFunc(a.Rows, b.Rows, slices.Equal)
}

// isZero reports whether m is the zero value, but for an empty list.
func isZero(m api.Matrix) bool {
	return m.Cols == 0 && len(m.Rows) == 0
}

// words calls yield with every list of n elements.
func words(g *field.GF, n int, yield func([]int)) {
	list := make([]int, n)
	var fill func(int)
	fill = func(i int) {
		if i == n {
			yield(list)
			return
		}
		for x := range g.Elements() {
			list[i] = x
			fill(i + 1)
		}
	}
	fill(0)
}

// dot returns the sum of the products of the entries with the same index.
func dot(g *field.GF, a, b []int) int {
	sum := 0
	for i, x := range a {
		sum = g.Add(sum, g.Mul(x, b[i]))
	}
	return sum
}

// column returns the column c of m.
func column(m api.Matrix, c int) []int {
	var list []int
	for _, row := range m.Rows {
		list = append(list, row[c])
	}
	return list
}

// combined returns the sum of the rows of m, each multiplied by the entry of x with its index, column by column.
func combined(g *field.GF, x []int, m api.Matrix) []int {
	var list []int
	for c := range m.Cols {
		list = append(list, dot(g, x, column(m, c)))
	}
	return list
}

// key returns a text that differs for different words.
func key(word []int) string {
	text := make([]byte, len(word))
	for i, x := range word {
		text[i] = byte(x)
	}
	return string(text)
}

// spanned returns all combinations of the rows of m.
func spanned(g *field.GF, m api.Matrix) map[string]bool {
	set := map[string]bool{}
	words(g, len(m.Rows), func(x []int) { set[key(combined(g, x, m))] = true })
	return set
}

// noFields are descriptions of no field.
var noFields = []api.Field{{}, {P: 4, M: 1}, {P: 2, M: 0}, {P: 2, M: 2}, {P: 2, M: 2, Mod: []int{0, 1}}, {P: 257, M: 1}, {P: 2, M: 9, Mod: make([]int, 9)}, {P: -1, M: 1}}

// sameMatrix reports an error unless have is want, and e is OK.
func sameMatrix(t *testing.T, have api.Matrix, e api.Errno, want api.Matrix, promise string, g *field.GF, args ...any) {
	t.Helper()
	if e != api.OK || !equal(have, want) {
		t.Errorf("%s: %v: %v: have %v and error %d, want %v", promise, g.Field(), args, have, e, want)
	}
}

// sameList reports an error unless have is want, and e is OK.
func sameList(t *testing.T, have []int, e api.Errno, want []int, promise string, g *field.GF, args ...any) {
	t.Helper()
	if e != api.OK || !slices.Equal(have, want) {
		t.Errorf("%s: %v: %v: have %v and error %d, want %v", promise, g.Field(), args, have, e, want)
	}
}

// sameInt reports an error unless have is want, and e is OK.
func sameInt(t *testing.T, have int, e api.Errno, want int, promise string, g *field.GF, args ...any) {
	t.Helper()
	if e != api.OK || have != want {
		t.Errorf("%s: %v: %v: have %d and error %d, want %d", promise, g.Field(), args, have, e, want)
	}
}

// result is what a function returns: its error, and whether all else is the zero value.
type result struct {
	e    api.Errno
	zero bool
}

func ofMatrix(m api.Matrix, e api.Errno) result { return result{e, isZero(m)} }
func ofList(l []int, e api.Errno) result        { return result{e, len(l) == 0} }
func ofInt(n int, e api.Errno) result           { return result{e, n == 0} }

// failed reports an error unless all results have the error want, and no value.
func failed(t *testing.T, results map[string]result, want api.Errno, promise string, args ...any) {
	t.Helper()
	for name, r := range results {
		if r.e != want || !r.zero {
			t.Errorf("%s: %s of %v: have error %d, want error %d and no value", promise, name, args, r.e, want)
		}
	}
}

func ofBool(b bool, e api.Errno) result { return result{e, !b} }

// space returns a space of random words of length n, of a dimension of at most dim.
func (r *random) space(t *testing.T, g *field.GF, dim, n int) api.Matrix {
	t.Helper()
	m := api.Matrix{Cols: n}
	sparse := 1 + r.below(4)
	for range dim {
		m.Rows = append(m.Rows, r.list(g, n, sparse))
	}
	return canonical(t, g, m)
}

// canonical returns the canonical matrix of m.
func canonical(t *testing.T, g *field.GF, m api.Matrix) api.Matrix {
	t.Helper()
	c, _, e := matrix.Canonical(g.Field(), m)
	if e != api.OK {
		t.Fatal(m, e)
	}
	return c
}

// leads returns the pivot columns of a.
func leads(a api.Matrix) []int {
	var list []int
	for _, row := range a.Rows {
		list = append(list, slices.IndexFunc(row, func(x int) bool { return x != 0 }))
	}
	return list
}

// isSpaceOf reports an error unless have is a space, e is OK, and the words of have are just the words of length n for which in is true.
func isSpaceOf(t *testing.T, have api.Matrix, e api.Errno, n int, in func(w []int) bool, promise string, g *field.GF, args ...any) {
	t.Helper()
	if e != api.OK || have.Cols != n || space.Check(g.Field(), have) != api.OK {
		t.Errorf("%s: %v: %v: have %v and error %d, which is no space", promise, g.Field(), args, have, e)
		return
	}
	set := spanned(g, have)
	words(g, n, func(w []int) {
		if set[key(w)] != in(w) {
			t.Errorf("%s: %v: %v: have %v: %v is a word of it: %v", promise, g.Field(), args, have, w, set[key(w)])
		}
	})
}

// sameBool reports an error unless have is want, and e is OK.
func sameBool(t *testing.T, have bool, e api.Errno, want bool, promise string, g *field.GF, args ...any) {
	t.Helper()
	if e != api.OK || have != want {
		t.Errorf("%s: %v: %v: have %v and error %d, want %v", promise, g.Field(), args, have, e, want)
	}
}

// ofOne returns what the functions of one space return for a, with other arguments that have errors of their own.
func ofOne(f api.Field, a api.Matrix) map[string]result {
	v := []int{-1, -1, -1}
	return map[string]result{
		"Check":       {space.Check(f, a), true},
		"Dual":        ofMatrix(space.Dual(f, a)),
		"Has":         ofBool(space.Has(f, a, v)),
		"Reduce":      ofList(space.Reduce(f, a, v)),
		"Coordinates": ofList(space.Coordinates(f, a, v)),
		"Supported":   ofMatrix(space.Supported(f, a, []int{-1})),
	}
}

// ofTwo returns what the functions of two spaces return for a and b.
func ofTwo(f api.Field, a, b api.Matrix) map[string]result {
	return map[string]result{
		"Sum":      ofMatrix(space.Sum(f, a, b)),
		"Meet":     ofMatrix(space.Meet(f, a, b)),
		"Inside":   ofBool(space.Inside(f, a, b)),
		"Quotient": ofMatrix(space.Quotient(f, a, b)),
	}
}

// ofWord returns what the functions of a word return for a and v.
func ofWord(f api.Field, a api.Matrix, v []int) map[string]result {
	return map[string]result{
		"Has":         ofBool(space.Has(f, a, v)),
		"Reduce":      ofList(space.Reduce(f, a, v)),
		"Coordinates": ofList(space.Coordinates(f, a, v)),
	}
}
