package code_test

import (
	"math"
	"slices"
	"testing"

	"codewright/api"
	"codewright/code"
	"codewright/field"
)

// random is a generator of numbers that are the same in each run.
type random struct{ state uint64 }

func (r *random) below(n int) int {
	r.state = r.state*6364136223846793005 + 1442695040888963407
	return int(r.state >> 33 % uint64(n))
}

// list returns n elements; about one in sparse of them is not 0.
func (r *random) list(g *field.GF, n, sparse int) []int {
	l := make([]int, n)
	for i := range l {
		if r.below(sparse) == 0 {
			l[i] = r.below(g.Order())
		}
	}
	return l
}

// matrix returns a matrix with this many rows and columns.
func (r *random) matrix(g *field.GF, rows, cols int) api.Matrix {
	m := api.Matrix{Cols: cols}
	sparse := 1 + r.below(3)
	for range rows {
		m.Rows = append(m.Rows, r.list(g, cols, sparse))
	}
	return m
}

// code returns a code of length n that random words generate, as many as rows.
func (r *random) code(t *testing.T, g *field.GF, rows, n int) api.Code {
	t.Helper()
	return generated(t, g, r.matrix(g, rows, n))
}

// generated returns the code that the rows of m generate.
func generated(t *testing.T, g *field.GF, m api.Matrix) api.Code {
	t.Helper()
	c, e := code.New(g.Field(), m)
	if e != api.OK {
		t.Fatal(m, e)
	}
	return c
}

// standard returns the standard field of order q.
func standard(t *testing.T, q int) *field.GF {
	t.Helper()
	f, e := field.Standard(q)
	if e != api.OK {
		t.Fatal(q, e)
	}
	return made(t, f)
}

// made returns the field that f describes.
func made(t *testing.T, f api.Field) *field.GF {
	t.Helper()
	g, e := field.New(f)
	if e != api.OK {
		t.Fatal(f, e)
	}
	return g
}

// fields returns standard fields of many orders, and two others.
func fields(t *testing.T) []*field.GF {
	t.Helper()
	var list []*field.GF
	for _, q := range []int{2, 3, 4, 5, 7, 8, 9, 16, 25, 27, 64, 81, 128, 243, 251, 256} {
		list = append(list, standard(t, q))
	}
	for _, f := range []api.Field{{P: 3, M: 2, Mod: []int{2, 1}}, {P: 2, M: 4, Mod: []int{1, 1, 1, 1}}} {
		list = append(list, made(t, f))
	}
	return list
}

// small returns fields that are small enough to go through all short words.
func small(t *testing.T) []*field.GF {
	t.Helper()
	var list []*field.GF
	for _, q := range []int{2, 3, 4, 5, 8, 9} {
		list = append(list, standard(t, q))
	}
	return append(list, made(t, api.Field{P: 3, M: 2, Mod: []int{2, 1}}))
}

// longest returns the greatest length of which there are at most most words over g.
func longest(g *field.GF, most int) int {
	n, count := 0, 1
	for count*g.Order() <= most {
		n, count = n+1, count*g.Order()
	}
	return n
}

// strangers are ints that are not elements of g.
func strangers(g *field.GF) []int {
	return []int{-1, g.Order(), g.Order() + 1, 1 << 32, math.MaxInt, math.MinInt}
}

// noFields are descriptions of no field.
var noFields = []api.Field{{}, {P: 4, M: 1}, {P: 2, M: 0}, {P: 2, M: 2}, {P: 2, M: 2, Mod: []int{0, 1}}, {P: 2, M: 1, Mod: []int{1}}, {P: 257, M: 1}, {P: 2, M: 9, Mod: make([]int, 9)}, {P: -1, M: 1}}

// digits returns lists with the digits of the texts.
func digits(texts ...string) [][]int {
	var rows [][]int
	for _, text := range texts {
		row := []int{}
		for _, digit := range text {
			row = append(row, int(digit-'0'))
		}
		rows = append(rows, row)
	}
	return rows
}

// coded returns the code of length n over g that is given by these rows.
func coded(g *field.GF, n int, texts ...string) api.Code {
	return api.Code{F: g.Field(), N: n, Gen: digits(texts...)}
}

// words returns all words of length n, in lexicographic order.
func words(g *field.GF, n int) [][]int {
	list := [][]int{{}}
	for range n {
		var longer [][]int
		for _, w := range list {
			for x := range g.Elements() {
				longer = append(longer, append(slices.Clone(w), x))
			}
		}
		list = longer
	}
	return list
}

// combined returns the sum of the rows, which have n entries, each multiplied by the entry of x with its index.
func combined(g *field.GF, x []int, n int, rows [][]int) []int {
	sum := make([]int, n)
	for i, row := range rows {
		for j, y := range row {
			sum[j] = g.Add(sum[j], g.Mul(x[i], y))
		}
	}
	return sum
}

// spanned returns all combinations of the rows, which have n entries.
func spanned(g *field.GF, n int, rows [][]int) map[string]bool {
	set := map[string]bool{}
	for _, x := range words(g, len(rows)) {
		set[key(combined(g, x, n, rows))] = true
	}
	return set
}

// key returns a text that differs for different words.
func key(word []int) string {
	text := make([]byte, len(word))
	for i, x := range word {
		text[i] = byte(x)
	}
	return string(text)
}

// dot returns the sum of the products of the entries with the same index.
func dot(g *field.GF, a, b []int) int {
	sum := 0
	for i, x := range a {
		sum = g.Add(sum, g.Mul(x, b[i]))
	}
	return sum
}

// isCanonical reports whether the rows are in reduced row echelon form, none of them zero.
func isCanonical(rows [][]int) bool {
	last := -1
	for i, row := range rows {
		at := 0
		for at < len(row) && row[at] == 0 {
			at++
		}
		if at == len(row) || at <= last || row[at] != 1 {
			return false
		}
		for j, other := range rows {
			if j != i && other[at] != 0 {
				return false
			}
		}
		last = at
	}
	return true
}

// isCodeOf reports an error unless have is a code over g, e is OK, and its words are just the words of length n for which in is true.
func isCodeOf(t *testing.T, have api.Code, e api.Errno, g *field.GF, n int, in func(w []int) bool, promise string, args ...any) {
	t.Helper()
	if e != api.OK || !field.Same(have.F, g.Field()) || have.N != n || !isCanonical(have.Gen) {
		t.Errorf("%s: %v: %v: have %v and error %d", promise, g.Field(), args, have, e)
		return
	}
	set := spanned(g, n, have.Gen)
	for _, w := range words(g, n) {
		if set[key(w)] != in(w) {
			t.Errorf("%s: %v: %v: have %v: %v is a word of it: %v", promise, g.Field(), args, have, w, set[key(w)])
		}
	}
}

// copied returns c in new memory.
func copied(c api.Code) api.Code {
	out := api.Code{F: c.F, N: c.N}
	out.F.Mod = slices.Clone(c.F.Mod)
	for _, row := range c.Gen {
		out.Gen = append(out.Gen, slices.Clone(row))
	}
	return out
}

// sameLists reports whether a and b have the same lists.
func sameLists(a, b [][]int) bool {
	return slices.EqualFunc(a, b, slices.Equal)
}

// equal reports whether c and d are equal.
func equal(c, d api.Code) bool {
	return field.Same(c.F, d.F) && c.N == d.N && sameLists(c.Gen, d.Gen)
}

// sameCode reports an error unless have is want, and e is OK.
func sameCode(t *testing.T, have api.Code, e api.Errno, want api.Code, promise string, args ...any) {
	t.Helper()
	if e != api.OK || !equal(have, want) {
		t.Errorf("%s: %v: have %v and error %d, want %v", promise, args, have, e, want)
	}
}

// sameList reports an error unless have is want, and e is OK.
func sameList(t *testing.T, have []int, e api.Errno, want []int, promise string, args ...any) {
	t.Helper()
	if e != api.OK || !slices.Equal(have, want) {
		t.Errorf("%s: %v: have %v and error %d, want %v", promise, args, have, e, want)
	}
}

// sameBool reports an error unless have is want, and e is OK.
func sameBool(t *testing.T, have bool, e api.Errno, want bool, promise string, args ...any) {
	t.Helper()
	if e != api.OK || have != want {
		t.Errorf("%s: %v: have %v and error %d, want %v", promise, args, have, e, want)
	}
}

// result is what a function returns: its error, and whether all else is the zero value.
type result struct {
	e    api.Errno
	zero bool
}

func ofMatrix(m api.Matrix, e api.Errno) result { return result{e, m.Cols == 0 && len(m.Rows) == 0} }
func ofList(l []int, e api.Errno) result        { return result{e, len(l) == 0} }
func ofLists(l [][]int, e api.Errno) result     { return result{e, len(l) == 0} }
func ofInt(n int, e api.Errno) result           { return result{e, n == 0} }
func ofBool(b bool, e api.Errno) result         { return result{e, !b} }
func ofCode(c api.Code, e api.Errno) result     { return result{e, equal(c, api.Code{})} }

// failed reports an error unless all results have the error want, and no value.
func failed(t *testing.T, results map[string]result, want api.Errno, promise string, args ...any) {
	t.Helper()
	for name, r := range results {
		if r.e != want || !r.zero {
			t.Errorf("%s: %s of %v: have error %d, want error %d and no value", promise, name, args, r.e, want)
		}
	}
}

// ofOne returns what the functions of one code return for c, with other arguments that have errors of their own.
func ofOne(c api.Code) map[string]result {
	l := []int{-1, -1, -1}
	yielded := 0
	for range code.Walk(c) {
		yielded++
	}
	return map[string]result{
		"Check":    {code.Check(c), true},
		"Matrix":   ofMatrix(code.Matrix(c)),
		"Pivots":   ofList(code.Pivots(c)),
		"Dual":     ofCode(code.Dual(c)),
		"Encode":   ofList(code.Encode(c, l)),
		"Message":  ofList(code.Message(c, l)),
		"Has":      ofBool(code.Has(c, l)),
		"Syndrome": ofList(code.Syndrome(c, l)),
		"Hull":     ofCode(code.Hull(c)),
		"Size":     ofInt(code.Size(c)),
		"Words":    ofLists(code.Words(c)),
		"Walk":     {code.Check(c), yielded == 0},
	}
}

// ofTwo returns what the functions of two codes return for c and d.
func ofTwo(c, d api.Code) map[string]result {
	return map[string]result{
		"Sum":    ofCode(code.Sum(c, d)),
		"Meet":   ofCode(code.Meet(c, d)),
		"Inside": ofBool(code.Inside(c, d)),
	}
}

// ofWord returns what the functions of a word return for c and w.
func ofWord(c api.Code, w []int) map[string]result {
	return map[string]result{
		"Message":  ofList(code.Message(c, w)),
		"Has":      ofBool(code.Has(c, w)),
		"Syndrome": ofList(code.Syndrome(c, w)),
	}
}
