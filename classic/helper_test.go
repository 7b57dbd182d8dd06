package classic_test

import (
	"slices"
	"testing"

	"codewright/api"
	"codewright/classic"
	"codewright/code"
	"codewright/field"
)

// standard returns the standard field of order q.
func standard(t *testing.T, q int) *field.GF {
	t.Helper()
	f, e := field.Standard(q)
	if e != api.OK {
		t.Fatal(q, e)
	}
	return made(t, f)
}

// made returns the field that f describes.
func made(t *testing.T, f api.Field) *field.GF {
	t.Helper()
	g, e := field.New(f)
	if e != api.OK {
		t.Fatal(f, e)
	}
	return g
}

// fields returns the standard fields of all orders, and others.
func fields(t *testing.T) []*field.GF {
	t.Helper()
	var list []*field.GF
	for q := 2; q <= api.MaxQ; q++ {
		if f, e := field.Standard(q); e == api.OK {
			list = append(list, made(t, f))
		}
	}
	for _, f := range []api.Field{{P: 3, M: 2, Mod: []int{2, 1}}, {P: 2, M: 3, Mod: []int{1, 0, 1}}, {P: 2, M: 4, Mod: []int{1, 1, 1, 1}}} {
		list = append(list, made(t, f))
	}
	return list
}

// noFields are descriptions of no field.
var noFields = []api.Field{{}, {P: 4, M: 1}, {P: 2, M: 0}, {P: 2, M: 2}, {P: 2, M: 2, Mod: []int{0, 1}}, {P: 2, M: 1, Mod: []int{1}}, {P: 257, M: 1}, {P: 2, M: 9, Mod: make([]int, 9)}, {P: -1, M: 1}}

// digits returns lists with the digits of the texts.
func digits(texts ...string) [][]int {
	var rows [][]int
	for _, text := range texts {
		row := []int{}
		for _, digit := range text {
			row = append(row, int(digit-'0'))
		}
		rows = append(rows, row)
	}
	return rows
}

// coded returns the code of length n over g that is given by these rows.
func coded(g *field.GF, n int, texts ...string) api.Code {
	return api.Code{F: g.Field(), N: n, Gen: digits(texts...)}
}

// generated returns the code of length n over g that the rows generate.
func generated(t *testing.T, g *field.GF, n int, rows [][]int) api.Code {
	t.Helper()
	c, e := code.New(g.Field(), api.Matrix{Cols: n, Rows: rows})
	if e != api.OK {
		t.Fatal(n, rows, e)
	}
	return c
}

// dual returns the dual code of c.
func dual(t *testing.T, c api.Code) api.Code {
	t.Helper()
	d, e := code.Dual(c)
	if e != api.OK {
		t.Fatal(c, e)
	}
	return d
}

// words returns all words of length n, in lexicographic order.
func words(g *field.GF, n int) [][]int {
	list := [][]int{{}}
	for range n {
		var longer [][]int
		for _, w := range list {
			for x := range g.Elements() {
				longer = append(longer, append(slices.Clone(w), x))
			}
		}
		list = longer
	}
	return list
}

// weight returns the number of the nonzero entries.
func weight(word []int) int {
	n := 0
	for _, x := range word {
		if x != 0 {
			n++
		}
	}
	return n
}

// weights returns how many words of c have each weight.
func weights(c api.Code) []int {
	counts := make([]int, c.N+1)
	for _, w := range code.Walk(c) {
		counts[weight(w)]++
	}
	return counts
}

// distance returns the least weight of a nonzero word of c, or 0 if there is none.
func distance(c api.Code) int {
	for d, count := range weights(c) {
		if d > 0 && count > 0 {
			return d
		}
	}
	return 0
}

// rotated returns the word with each entry moved to the next position, and the last one to the first.
func rotated(word []int) []int {
	last := len(word) - 1
	return append([]int{word[last]}, word[:last]...)
}

// closed reports an error unless the words of c, with the entry at each position i moved to the position move(i), are words of c.
func closed(t *testing.T, c api.Code, move func(i int) int, promise string, args ...any) {
	t.Helper()
	for _, row := range c.Gen {
		w := make([]int, c.N)
		for i, x := range row {
			w[move(i)] = x
		}
		has(t, c, w, promise, args...)
	}
}

// has reports an error unless w is a word of c.
func has(t *testing.T, c api.Code, w []int, promise string, args ...any) {
	t.Helper()
	if in, e := code.Has(c, w); e != api.OK || !in {
		t.Errorf("%s: %v: %v is no word of %v: error %d", promise, args, w, c, e)
	}
}

// sameLists reports whether a and b have the same lists.
func sameLists(a, b [][]int) bool {
	return slices.EqualFunc(a, b, slices.Equal)
}

// equal reports whether c and d are equal.
func equal(c, d api.Code) bool {
	return field.Same(c.F, d.F) && c.N == d.N && sameLists(c.Gen, d.Gen)
}

// sameCode reports an error unless have is want, and e is OK.
func sameCode(t *testing.T, have api.Code, e api.Errno, want api.Code, promise string, args ...any) {
	t.Helper()
	if e != api.OK || !equal(have, want) {
		t.Errorf("%s: %v: have %v and error %d, want %v", promise, args, have, e, want)
	}
}

// sameRows reports an error unless have is want, and e is OK.
func sameRows(t *testing.T, have [][]int, e api.Errno, want [][]int, promise string, args ...any) {
	t.Helper()
	if e != api.OK || !sameLists(have, want) {
		t.Errorf("%s: %v: have %v and error %d, want %v", promise, args, have, e, want)
	}
}

// result is what a function returns: a code, or a list.
type result struct {
	c    api.Code
	rows [][]int
	e    api.Errno
}

func ofCode(c api.Code, e api.Errno) result { return result{c: c, e: e} }

func ofRows(rows [][]int, e api.Errno) result { return result{rows: rows, e: e} }

// ofRow takes a list for the only row; no list is no row.
func ofRow(row []int, e api.Errno) result {
	if len(row) == 0 {
		return result{e: e}
	}
	return result{rows: [][]int{row}, e: e}
}

// ofLength returns what the functions of a field and a length return.
func ofLength(f api.Field, n int) map[string]result {
	return map[string]result{"Repetition": ofCode(classic.Repetition(f, n)), "Parity": ofCode(classic.Parity(f, n))}
}

// ofOrder returns what the functions of a field and an order return.
func ofOrder(f api.Field, r int) map[string]result {
	return map[string]result{"Points": ofRows(classic.Points(f, r)), "Hamming": ofCode(classic.Hamming(f, r)), "Simplex": ofCode(classic.Simplex(f, r))}
}

// failed reports an error unless all results have the error want, and neither a code nor a list.
func failed(t *testing.T, results map[string]result, want api.Errno, promise string, args ...any) {
	t.Helper()
	for name, r := range results {
		if r.e != want || !equal(r.c, api.Code{}) || len(r.rows) > 0 {
			t.Errorf("%s: %s of %v: have %v, %v and error %d, want error %d alone", promise, name, args, r.c, r.rows, r.e, want)
		}
	}
}
