package combine_test

import (
	"slices"
	"testing"

	"codewright/api"
	"codewright/code"
	"codewright/combine"
	"codewright/field"
	"codewright/tower"
)

// random is a generator of numbers that are the same in each run.
type random struct{ state uint64 }

func (r *random) below(n int) int {
	r.state = r.state*6364136223846793005 + 1442695040888963407
	return int(r.state >> 33 % uint64(n))
}

// list returns n elements; about one in sparse of them is not 0.
func (r *random) list(g *field.GF, n, sparse int) []int {
	l := make([]int, n)
	for i := range l {
		if r.below(sparse) == 0 {
			l[i] = r.below(g.Order())
		}
	}
	return l
}

// code returns a code of length n that random words generate, as many as rows.
func (r *random) code(t *testing.T, g *field.GF, rows, n int) api.Code {
	t.Helper()
	var list [][]int
	sparse := 1 + r.below(3)
	for range rows {
		list = append(list, r.list(g, n, sparse))
	}
	return generated(t, g, n, list)
}

// less returns a code that random words of c generate, as many as rows.
func (r *random) less(t *testing.T, g *field.GF, rows int, c api.Code) api.Code {
	t.Helper()
	var list [][]int
	for range rows {
		list = append(list, combined(g, r.list(g, len(c.Gen), 2), c))
	}
	return generated(t, g, c.N, list)
}

// exact returns a code of length n and dimension k.
func (r *random) exact(t *testing.T, g *field.GF, k, n int) api.Code {
	t.Helper()
	c := r.code(t, g, k, n)
	for len(c.Gen) < k {
		c = generated(t, g, n, append(c.Gen, r.list(g, n, 1)))
	}
	return c
}

// basis returns a basis of g over the subfield of degree d.
func (r *random) basis(g *field.GF, d int) []int {
	for {
		if l := r.list(g, g.Field().M/d, 1); tower.IsBasis(g, l, d) {
			return l
		}
	}
}

// combined returns the word of c with the message msg.
func combined(g *field.GF, msg []int, c api.Code) []int {
	w := make([]int, c.N)
	for i, x := range msg {
		w = plus(g, w, g.Scale(x, c.Gen[i]))
	}
	return w
}

// weight returns the number of the nonzero entries.
func weight(word []int) int {
	n := 0
	for _, x := range word {
		if x != 0 {
			n++
		}
	}
	return n
}

// distance returns the least weight of a nonzero word of c, or 0 if there is none.
func distance(g *field.GF, c api.Code) int {
	least := 0
	for _, w := range spanned(g, c.N, c.Gen) {
		if n := weight(w); n > 0 && (least == 0 || n < least) {
			least = n
		}
	}
	return least
}

// spansCode reports an error unless have is a code of length n over g of dimension k, e is OK, and it has all words of the list, which generate a code of this dimension.
func spansCode(t *testing.T, have api.Code, e api.Errno, g *field.GF, n, k int, list [][]int, promise string, args ...any) {
	t.Helper()
	if e != api.OK || code.Check(have) != api.OK || !field.Same(have.F, g.Field()) || have.N != n || len(have.Gen) != k {
		t.Fatalf("%s: %v: %v: have %v and error %d, want dimension %d", promise, g.Field(), args, have, e, k)
	}
	for _, w := range list {
		if in, e := code.Has(have, w); e != api.OK || !in {
			t.Errorf("%s: %v: %v: %v is no word of %v: error %d", promise, g.Field(), args, w, have, e)
		}
	}
}

// generated returns the code of length n that the rows generate.
func generated(t *testing.T, g *field.GF, n int, rows [][]int) api.Code {
	t.Helper()
	c, e := code.New(g.Field(), api.Matrix{Cols: n, Rows: rows})
	if e != api.OK {
		t.Fatal(n, rows, e)
	}
	return c
}

// dual returns the dual code of c.
func dual(t *testing.T, c api.Code) api.Code {
	t.Helper()
	d, e := code.Dual(c)
	if e != api.OK {
		t.Fatal(c, e)
	}
	return d
}

// standard returns the standard field of order q.
func standard(t *testing.T, q int) *field.GF {
	t.Helper()
	f, e := field.Standard(q)
	if e != api.OK {
		t.Fatal(q, e)
	}
	return made(t, f)
}

// made returns the field that f describes.
func made(t *testing.T, f api.Field) *field.GF {
	t.Helper()
	g, e := field.New(f)
	if e != api.OK {
		t.Fatal(f, e)
	}
	return g
}

// unusual are descriptions of fields that are not the standard ones.
var unusual = []api.Field{{P: 3, M: 2, Mod: []int{2, 1}}, {P: 2, M: 3, Mod: []int{1, 0, 1}}, {P: 2, M: 4, Mod: []int{1, 1, 1, 1}}}

// fields returns standard fields of many orders, and others.
func fields(t *testing.T) []*field.GF {
	t.Helper()
	var list []*field.GF
	for _, q := range []int{2, 3, 4, 5, 7, 8, 9, 16, 25, 27, 64, 81, 128, 243, 251, 256} {
		list = append(list, standard(t, q))
	}
	for _, f := range unusual {
		list = append(list, made(t, f))
	}
	return list
}

// small returns fields that are small enough to go through all short words.
func small(t *testing.T) []*field.GF {
	t.Helper()
	var list []*field.GF
	for _, q := range []int{2, 3, 4, 5, 8, 9} {
		list = append(list, standard(t, q))
	}
	return append(list, made(t, unusual[0]))
}

// longest returns the greatest length of which there are at most most words over g.
func longest(g *field.GF, most int) int {
	n, count := 0, 1
	for count*g.Order() <= most {
		n, count = n+1, count*g.Order()
	}
	return n
}

// noFields are descriptions of no field.
var noFields = []api.Field{{}, {P: 4, M: 1}, {P: 2, M: 0}, {P: 2, M: 2}, {P: 2, M: 2, Mod: []int{0, 1}}, {P: 2, M: 1, Mod: []int{1}}, {P: 257, M: 1}, {P: 2, M: 9, Mod: make([]int, 9)}, {P: -1, M: 1}}

// digits returns lists with the digits of the texts.
func digits(texts ...string) [][]int {
	var rows [][]int
	for _, text := range texts {
		row := []int{}
		for _, digit := range text {
			row = append(row, int(digit-'0'))
		}
		rows = append(rows, row)
	}
	return rows
}

// coded returns the code of length n over g that is given by these rows.
func coded(g *field.GF, n int, texts ...string) api.Code {
	return api.Code{F: g.Field(), N: n, Gen: digits(texts...)}
}

// words returns all words of length n.
func words(g *field.GF, n int) [][]int {
	list := [][]int{{}}
	for range n {
		var longer [][]int
		for _, w := range list {
			for x := range g.Elements() {
				longer = append(longer, append(slices.Clone(w), x))
			}
		}
		list = longer
	}
	return list
}

// spanned returns all different combinations of the rows, which have n entries.
func spanned(g *field.GF, n int, rows [][]int) [][]int {
	list, seen := [][]int{make([]int, n)}, map[string]bool{key(make([]int, n)): true}
	for _, row := range rows {
		for _, w := range list {
			for x := range g.Elements() {
				sum := plus(g, w, g.Scale(x, row))
				if !seen[key(sum)] {
					seen[key(sum)] = true
					list = append(list, sum)
				}
			}
		}
	}
	return list
}

// plus returns the sum of two words.
func plus(g *field.GF, v, w []int) []int {
	sum := make([]int, len(v))
	for i, x := range v {
		sum[i] = g.Add(x, w[i])
	}
	return sum
}

// key returns a text that differs for different words.
func key(word []int) string {
	text := make([]byte, len(word))
	for i, x := range word {
		text[i] = byte(x)
	}
	return string(text)
}

// isCanonical reports whether the rows are in reduced row echelon form, none of them zero.
func isCanonical(rows [][]int) bool {
	last := -1
	for i, row := range rows {
		at := 0
		for at < len(row) && row[at] == 0 {
			at++
		}
		if at == len(row) || at <= last || row[at] != 1 {
			return false
		}
		for j, other := range rows {
			if j != i && other[at] != 0 {
				return false
			}
		}
		last = at
	}
	return true
}

// isCodeOf reports an error unless have is a code of length n over g, e is OK, and its words are just those of the list want, in which a word may be several times.
func isCodeOf(t *testing.T, have api.Code, e api.Errno, g *field.GF, n int, want [][]int, promise string, args ...any) {
	t.Helper()
	if e != api.OK || !field.Same(have.F, g.Field()) || have.N != n || !isCanonical(have.Gen) {
		t.Errorf("%s: %v: %v: have %v and error %d", promise, g.Field(), args, have, e)
		return
	}
	is := map[string]bool{}
	for _, w := range want {
		is[key(w)] = true
	}
	list := spanned(g, n, have.Gen)
	for _, w := range list {
		if !is[key(w)] {
			t.Errorf("%s: %v: %v: have %v: %v is no word", promise, g.Field(), args, have, w)
		}
	}
	if len(list) != len(is) {
		t.Errorf("%s: %v: %v: have %v with %d words, want %d", promise, g.Field(), args, have, len(list), len(is))
	}
}

// copied returns c in new memory.
func copied(c api.Code) api.Code {
	out := api.Code{F: c.F, N: c.N}
	out.F.Mod = slices.Clone(c.F.Mod)
	for _, row := range c.Gen {
		out.Gen = append(out.Gen, slices.Clone(row))
	}
	return out
}

// sameLists reports whether a and b have the same lists.
func sameLists(a, b [][]int) bool {
	return slices.EqualFunc(a, b, slices.Equal)
}

// equal reports whether c and d are equal.
func equal(c, d api.Code) bool {
	return field.Same(c.F, d.F) && c.N == d.N && sameLists(c.Gen, d.Gen)
}

// sameCode reports an error unless have is want, and e is OK.
func sameCode(t *testing.T, have api.Code, e api.Errno, want api.Code, promise string, args ...any) {
	t.Helper()
	if e != api.OK || !equal(have, want) {
		t.Errorf("%s: %v: have %v and error %d, want %v", promise, args, have, e, want)
	}
}

// result is what a function returns.
type result struct {
	c api.Code
	e api.Errno
}

func of(c api.Code, e api.Errno) result { return result{c, e} }

// failed reports an error unless all results have the error want, and no code.
func failed(t *testing.T, results map[string]result, want api.Errno, promise string, args ...any) {
	t.Helper()
	for name, r := range results {
		if r.e != want || !equal(r.c, api.Code{}) {
			t.Errorf("%s: %s of %v: have %v and error %d, want error %d and no code", promise, name, args, r.c, r.e, want)
		}
	}
}

// badCodes returns data that are no codes, with the errors of code.Check; with each of them, errors that are named later.
func badCodes(g *field.GF) map[api.Errno]api.Code {
	f := g.Field()
	return map[api.Errno]api.Code{
		api.ErrField:   {F: api.Field{P: 4, M: 1}, N: 0, Gen: digits("10")},
		api.ErrLength:  {F: f, N: 65, Gen: digits("10")},
		api.ErrShape:   {F: f, N: 3, Gen: [][]int{{0, -1, 0}, {0, 0}}},
		api.ErrElement: {F: f, N: 3, Gen: [][]int{{0, 1, 0}, {0, 0, g.Order()}}},
		api.ErrForm:    {F: f, N: 3, Gen: digits("010", "100")},
	}
}

// ofPair returns what the functions of two codes return.
func ofPair(a, b api.Code) map[string]result {
	return map[string]result{
		"Sum":       of(combine.Sum(a, b)),
		"Plotkin":   of(combine.Plotkin(a, b)),
		"Juxtapose": of(combine.Juxtapose(a, b)),
		"Product":   of(combine.Product(a, b)),
	}
}

// only returns the results with these names.
func only(results map[string]result, names ...string) map[string]result {
	some := map[string]result{}
	for _, name := range names {
		some[name] = results[name]
	}
	return some
}
