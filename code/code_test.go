package code_test

import (
	"math"
	"slices"
	"testing"

	"codewright/api"
	"codewright/code"
	"codewright/field"
)

func TestCheck(t *testing.T) {
	r := &random{state: 1}
	for _, g := range fields(t) {
		for _, n := range []int{1, 2, 3, 10, 63, 64} {
			for _, rows := range []int{0, 1, 2, n / 2, n} {
				c := r.code(t, g, rows, n)
				if e := code.Check(c); e != api.OK {
					t.Errorf("P12.1: Check(%v): %d", c, e)
				}
			}
		}
	}
}

// misshaped are rows that are not those of a matrix with 3 columns over the field of 3 elements, and notElements those of which entries are not elements; both would not be canonical.
var (
	misshaped   = [][][]int{digits("000", "10"), digits("000", "1000"), digits(""), {nil}, digits("9", "999"), make([][]int, 257)}
	notElements = [][][]int{digits("003"), digits("000", "900"), {{0, -1, 0}}, {{0, 0, math.MaxInt}}, {{math.MinInt, 0, 0}}}
	notReduced  = [][][]int{digits("000"), digits("200"), digits("020"), digits("100", "000"), digits("000", "100"), digits("110", "010"), digits("010", "100"), digits("100", "100"), digits("100", "010", "001", "000"), digits("101", "002"), digits("101", "001")}
)

func TestErrorsOfCheck(t *testing.T) {
	g := standard(t, 3)
	for _, f := range noFields {
		for _, n := range []int{0, 3, 65} {
			for _, gen := range [][][]int{nil, misshaped[0], notElements[0], notReduced[0]} {
				failed(t, ofOne(api.Code{F: f, N: n, Gen: gen}), api.ErrField, "P12.1", f, n, gen)
			}
		}
	}
	for _, n := range []int{0, -1, 65, 256, math.MaxInt, math.MinInt} {
		for _, gen := range [][][]int{nil, {make([]int, max(0, min(n, 300)))}, misshaped[0], notElements[0]} {
			failed(t, ofOne(api.Code{F: g.Field(), N: n, Gen: gen}), api.ErrLength, "P12.1", n, gen)
		}
	}
	for want, list := range map[api.Errno][][][]int{api.ErrShape: misshaped, api.ErrElement: notElements, api.ErrForm: notReduced} {
		for _, gen := range list {
			failed(t, ofOne(api.Code{F: g.Field(), N: 3, Gen: gen}), want, "P12.1", gen)
		}
	}
	many := [][]int{}
	for range 256 {
		many = append(many, []int{1, 1, 1})
	}
	failed(t, ofOne(api.Code{F: g.Field(), N: 3, Gen: many}), api.ErrForm, "P12.1", "256 rows")
	failed(t, ofOne(api.Code{F: g.Field(), N: 3, Gen: append(many, []int{3, 3, 3})}), api.ErrShape, "P12.1", "257 rows")
}

func TestNew(t *testing.T) {
	r := &random{state: 2}
	for _, g := range small(t) {
		for n := 1; n <= longest(g, 729); n++ {
			for rows := range n + 2 {
				if rows > longest(g, 729) {
					continue
				}
				m := r.matrix(g, rows, n)
				set := spanned(g, n, m.Rows)
				c, e := code.New(g.Field(), m)
				isCodeOf(t, c, e, g, n, func(w []int) bool { return set[key(w)] }, "P12.1: New", m)
			}
		}
	}
	for _, g := range fields(t) {
		for _, n := range []int{1, 2, 30, 64} {
			m := r.matrix(g, 256, n)
			c, e := code.New(g.Field(), m)
			if e != api.OK || c.N != n || !field.Same(c.F, g.Field()) || !isCanonical(c.Gen) {
				t.Errorf("P12.1: New of 256 rows of length %d: have %v and error %d", n, c, e)
			}
			for _, w := range m.Rows {
				in, e := code.Has(c, w)
				sameBool(t, in, e, true, "P12.1: New: a row is a word", w)
			}
		}
	}
}

func TestErrorsOfNew(t *testing.T) {
	f := standard(t, 3).Field()
	of := func(f api.Field, m api.Matrix) map[string]result {
		return map[string]result{"New": ofCode(code.New(f, m))}
	}
	for _, no := range noFields {
		for _, m := range []api.Matrix{{}, {Cols: 3}, {Cols: -1}, {Cols: 65}, {Cols: 3, Rows: misshaped[0]}, {Cols: 3, Rows: notElements[0]}} {
			failed(t, of(no, m), api.ErrField, "P12.1", no, m)
		}
	}
	for _, cols := range []int{-1, 257, math.MaxInt, math.MinInt} {
		failed(t, of(f, api.Matrix{Cols: cols}), api.ErrShape, "P12.1", cols)
	}
	for _, rows := range misshaped {
		failed(t, of(f, api.Matrix{Cols: 3, Rows: rows}), api.ErrShape, "P12.1", rows)
	}
	for _, rows := range notElements {
		failed(t, of(f, api.Matrix{Cols: 3, Rows: rows}), api.ErrElement, "P12.1", rows)
	}
	for _, cols := range []int{0, 65, 66, 256} {
		failed(t, of(f, api.Matrix{Cols: cols}), api.ErrLength, "P12.1", cols)
		failed(t, of(f, api.Matrix{Cols: cols, Rows: [][]int{make([]int, cols)}}), api.ErrLength, "P12.1", cols)
	}
	row := make([]int, 65)
	row[64] = 3
	failed(t, of(f, api.Matrix{Cols: 65, Rows: [][]int{row}}), api.ErrElement, "P12.1", row)
	for _, rows := range notReduced {
		if c, e := code.New(f, api.Matrix{Cols: 3, Rows: rows}); e != api.OK || !isCanonical(c.Gen) {
			t.Errorf("P12.1: New(%v): have %v and error %d", rows, c, e)
		}
	}
}

func TestWhole(t *testing.T) {
	for _, g := range fields(t) {
		for n := 1; n <= api.MaxN; n++ {
			want := api.Code{F: g.Field(), N: n}
			for i := range n {
				row := make([]int, n)
				row[i] = 1
				want.Gen = append(want.Gen, row)
			}
			c, e := code.Whole(g.Field(), n)
			sameCode(t, c, e, want, "P12.1: Whole", n)
		}
		for _, n := range []int{0, -1, 65, 256, 257, math.MaxInt, math.MinInt} {
			failed(t, map[string]result{"Whole": ofCode(code.Whole(g.Field(), n))}, api.ErrLength, "P12.1", n)
		}
	}
	for _, f := range noFields {
		for _, n := range []int{0, 1, 65} {
			failed(t, map[string]result{"Whole": ofCode(code.Whole(f, n))}, api.ErrField, "P12.1", f, n)
		}
	}
}

func TestMatrixAndPivots(t *testing.T) {
	r := &random{state: 3}
	for _, g := range fields(t) {
		for _, n := range []int{1, 2, 5, 20, 64} {
			for _, rows := range []int{0, 1, n / 2, n} {
				c := r.code(t, g, rows, n)
				kept := copied(c)
				m, e := code.Matrix(c)
				if e != api.OK || m.Cols != n || !sameLists(m.Rows, kept.Gen) {
					t.Errorf("P12.2: Matrix(%v): have %v and error %d", c, m, e)
				}
				var want []int
				for _, row := range c.Gen {
					want = append(want, slices.IndexFunc(row, func(x int) bool { return x != 0 }))
				}
				p, e := code.Pivots(c)
				sameList(t, p, e, want, "P12.2: Pivots", c)
				sameCode(t, c, api.OK, kept, "Rules: an argument")
			}
		}
	}
}

func TestDual(t *testing.T) {
	r := &random{state: 4}
	for _, g := range small(t) {
		for n := 1; n <= longest(g, 729); n++ {
			for rows := range n + 1 {
				c := r.code(t, g, rows, n)
				kept := copied(c)
				d, e := code.Dual(c)
				isCodeOf(t, d, e, g, n, func(w []int) bool {
					return !slices.ContainsFunc(c.Gen, func(row []int) bool { return dot(g, w, row) != 0 })
				}, "P12.2: Dual", c)
				sameCode(t, c, api.OK, kept, "Rules: an argument")
			}
		}
	}
}

func TestDualOfLargerCodes(t *testing.T) {
	r := &random{state: 5}
	for _, g := range fields(t) {
		for _, n := range []int{1, 7, 33, 64} {
			for _, rows := range []int{0, 1, n / 2, n - 1, n} {
				c := r.code(t, g, rows, n)
				d, e := code.Dual(c)
				if e != api.OK || code.Check(d) != api.OK || d.N != n || len(d.Gen) != n-len(c.Gen) {
					t.Fatalf("P12.2: Dual(%v): have %v and error %d", c, d, e)
				}
				for _, v := range c.Gen {
					for _, w := range d.Gen {
						if dot(g, v, w) != 0 {
							t.Errorf("P12.2: Dual(%v): the product of %v and %v is not 0", c, v, w)
						}
					}
				}
				back, e := code.Dual(d)
				sameCode(t, back, e, c, "P12.6: the dual of the dual")
			}
		}
	}
}

func TestExamples(t *testing.T) {
	g := standard(t, 2)
	c, e := code.New(g.Field(), api.Matrix{Cols: 4, Rows: digits("1101", "0111")})
	sameCode(t, c, e, coded(g, 4, "1010", "0111"), "Examples: New")
	p, e := code.Pivots(c)
	sameList(t, p, e, []int{0, 1}, "Examples: Pivots")
	w, e := code.Encode(c, []int{1, 1})
	sameList(t, w, e, []int{1, 1, 0, 1}, "Examples: Encode")
	m, e := code.Message(c, []int{1, 0, 1, 0})
	sameList(t, m, e, []int{1, 0}, "Examples: Message")
	if l, e := code.Words(c); e != api.OK || !sameLists(l, digits("0000", "0111", "1010", "1101")) {
		t.Errorf("Examples: Words: have %v and error %d", l, e)
	}
	d, e := code.Dual(c)
	sameCode(t, d, e, coded(g, 4, "1011", "0101"), "Examples: Dual")
	s, e := code.Syndrome(c, []int{1, 0, 0, 0})
	sameList(t, s, e, []int{1, 0}, "Examples: Syndrome")
	h, e := code.Hull(c)
	sameCode(t, h, e, coded(g, 4), "Examples: Hull")
}
