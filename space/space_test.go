package space_test

import (
	"math"
	"slices"
	"testing"

	"codewright/api"
	"codewright/field"
	"codewright/space"
)

func TestCheck(t *testing.T) {
	r := &random{state: 1}
	for _, g := range fields(t) {
		f := g.Field()
		for n := range 8 {
			for dim := range 8 {
				if e := space.Check(f, r.space(t, g, dim, n)); e != api.OK {
					t.Errorf("P10.1: %v: Check of a space: %d", f, e)
				}
			}
		}
		for _, m := range []api.Matrix{{Cols: 256}, {}, rows(3, "001"), rows(1, "1"), rows(4, "1001", "0101", "0011")} {
			if e := space.Check(f, m); e != api.OK {
				t.Errorf("P10.1: %v: Check(%v): %d, want OK", f, m, e)
			}
		}
		for _, m := range []api.Matrix{
			rows(0, ""), rows(2, "00"), rows(2, "10", "00"), rows(2, "00", "10"), rows(2, "11", "01"), rows(2, "01", "10"),
			rows(2, "10", "10"), rows(3, "100", "011", "001"), rows(3, "101", "001"), rows(3, "010", "110"), rows(3, "011", "111"), rows(2, "10", "01", "11"),
			rows(4, "1010", "0110", "0010"),
		} {
			failed(t, ofOne(f, m), api.ErrForm, "P10.1", f, m)
		}
		for x := 2; x < g.Order(); x++ {
			m := rows(3, "100", "010")
			m.Rows[x%2][x%2] = x
			failed(t, ofOne(f, m), api.ErrForm, "P10.1", f, m)
		}
	}
}

// TestCheckOfAllSmallMatrices compares with the number of the spaces of each length and dimension, for the row spaces of all matrices.
func TestCheckOfAllSmallMatrices(t *testing.T) {
	for _, g := range small(t)[:3] {
		for n := range 4 {
			for dim := range 3 {
				forms := 0
				words(g, n*dim, func(l []int) {
					m := api.Matrix{Cols: n}
					for i := range dim {
						m.Rows = append(m.Rows, slices.Clone(l[i*n:(i+1)*n]))
					}
					ok := equal(canonical(t, g, m), m)
					if have := space.Check(g.Field(), m); (have == api.OK) != ok || !ok && have != api.ErrForm {
						t.Errorf("P10.1: %v: Check(%v): %d", g.Field(), m, have)
					}
					if ok {
						forms++
					}
				})
				if want := spaces(g.Order(), n, dim); forms != want {
					t.Errorf("P10.1: %v: %d spaces of length %d and dimension %d, want %d", g.Field(), forms, n, dim, want)
				}
			}
		}
	}
}

// spaces returns the number of the spaces of length n and dimension dim.
func spaces(q, n, dim int) int {
	if dim == 0 {
		return 1
	}
	if n == 0 {
		return 0
	}
	power := 1
	for range dim {
		power *= q
	}
	return spaces(q, n-1, dim-1) + power*spaces(q, n-1, dim)
}

func TestErrorsOfMatrices(t *testing.T) {
	good, bad := rows(2, "10", "01"), rows(2, "11", "01")
	for _, f := range noFields {
		for _, m := range []api.Matrix{good, bad, {Cols: -1}, rows(1, "9")} {
			failed(t, ofOne(f, m), api.ErrField, "P10.1", f, m)
			failed(t, ofTwo(f, m, bad), api.ErrField, "P10.1", f, m)
		}
	}
	f := standard(t, 3).Field()
	shapes := []api.Matrix{{Cols: -1}, {Cols: 257}, rows(2, "1"), rows(1, "9", "99"), {Rows: make([][]int, 257)}, rows(2, "11", "01", "")}
	entries := []api.Matrix{rows(2, "13"), rows(2, "93", "01"), {Cols: 1, Rows: [][]int{{-1}}}, {Cols: 1, Rows: [][]int{{math.MinInt}}}, rows(1, "1", "3")}
	for _, m := range shapes {
		failed(t, ofOne(f, m), api.ErrShape, "P10.1", m)
		failed(t, ofTwo(f, m, bad), api.ErrShape, "P10.1", m)
		failed(t, ofTwo(f, good, m), api.ErrShape, "P10.1", m)
	}
	for _, m := range entries {
		failed(t, ofOne(f, m), api.ErrElement, "P10.1", m)
		failed(t, ofTwo(f, m, bad), api.ErrElement, "P10.1", m)
		failed(t, ofTwo(f, m, shapes[0]), api.ErrElement, "P10.1", m)
		failed(t, ofTwo(f, good, m), api.ErrElement, "P10.1", m)
	}
	for _, m := range []api.Matrix{shapes[0], entries[0], good, rows(1, "1")} {
		failed(t, ofTwo(f, bad, m), api.ErrForm, "P10.1", m)
	}
	failed(t, ofTwo(f, rows(1, "1"), bad), api.ErrForm, "P10.1")
	for _, m := range []api.Matrix{rows(3), rows(1), rows(0), rows(1, "1"), rows(3, "100", "010"), {Cols: 256}} {
		failed(t, ofTwo(f, good, m), api.ErrMatch, "P10.1", m)
		failed(t, ofTwo(f, m, good), api.ErrMatch, "P10.1", m)
	}
}

func TestErrorsOfWords(t *testing.T) {
	for _, g := range fields(t) {
		f := g.Field()
		for _, a := range []api.Matrix{rows(3), rows(3, "011"), rows(3, "100", "010", "001")} {
			for _, v := range [][]int{nil, {}, {1, 1}, {1, 1, 1, 1}, {-1}, {0, 0, 0, g.Order()}} {
				failed(t, ofWord(f, a, v), api.ErrShape, "P10.1", a, v)
			}
			for _, x := range strangers(g) {
				for _, v := range [][]int{{x, 0, 0}, {0, x, 1}, {0, 0, x}, {x, x, x}} {
					failed(t, ofWord(f, a, v), api.ErrElement, "P10.1", a, v)
				}
			}
		}
		failed(t, ofWord(f, rows(0), []int{0}), api.ErrShape, "P10.1")
	}
}

func TestErrorsOfSets(t *testing.T) {
	f := standard(t, 4).Field()
	for _, a := range []api.Matrix{rows(3), rows(3, "010"), rows(3, "100", "010", "001")} {
		for _, set := range [][]int{{-1}, {3}, {0, 3}, {-1, 0}, {0, 0}, {1, 0}, {2, 1}, {0, 2, 2}, {0, 2, 1}, {0, 1, 2, 3}, {0, 1, 2, 2}, {math.MaxInt}, {math.MinInt}, {0, math.MinInt}, {math.MinInt, math.MaxInt}} {
			failed(t, map[string]result{"Supported": ofMatrix(space.Supported(f, a, set))}, api.ErrRange, "P10.4", a, set)
		}
	}
	failed(t, map[string]result{"Supported": ofMatrix(space.Supported(f, rows(0), []int{0}))}, api.ErrRange, "P10.4")
}

func TestExamples(t *testing.T) {
	g := standard(t, 2)
	f := g.Field()
	a, b, whole := rows(3, "101", "011"), rows(3, "100"), rows(3, "100", "010", "001")
	m, e := space.Sum(f, a, b)
	sameMatrix(t, m, e, whole, "Examples: Sum", g)
	m, e = space.Meet(f, a, b)
	sameMatrix(t, m, e, rows(3), "Examples: Meet", g)
	m, e = space.Dual(f, a)
	sameMatrix(t, m, e, rows(3, "111"), "Examples: Dual", g)
	v, e := space.Reduce(f, a, []int{1, 1, 0})
	sameList(t, v, e, []int{0, 0, 0}, "Examples: Reduce", g)
	v, e = space.Coordinates(f, a, []int{1, 1, 0})
	sameList(t, v, e, []int{1, 1}, "Examples: Coordinates", g)
	v, e = space.Reduce(f, a, []int{1, 0, 0})
	sameList(t, v, e, []int{0, 0, 1}, "Examples: Reduce", g)
	m, e = space.Quotient(f, b, whole)
	sameMatrix(t, m, e, rows(3, "010", "001"), "Examples: Quotient", g)
	m, e = space.Supported(f, a, []int{1, 2})
	sameMatrix(t, m, e, rows(3, "011"), "Examples: Supported", g)
}

// disjoint reports an error unless a change of one of the lists changes none of the others.
func disjoint(t *testing.T, name string, lists ...[]int) {
	t.Helper()
	kept := make([][]int, len(lists))
	for i, l := range lists {
		kept[i] = slices.Clone(l)
	}
	for i, l := range lists {
		for j := range l {
			l[j] = -1 - j
		}
		for j, other := range lists {
			if j != i && !slices.Equal(other, kept[j]) {
				t.Fatalf("Rules: %s: the lists %d and %d share memory", name, i, j)
			}
		}
		copy(l, kept[i])
	}
}

func TestResultsAreNewMemory(t *testing.T) {
	f := standard(t, 5).Field()
	a, b := rows(4, "1003", "0102"), rows(4, "1000", "0100", "0001")
	whole := rows(4, "1000", "0100", "0010", "0001")
	spare := append(make([][]int, 0, 9), a.Rows...)
	a.Rows = spare
	v := append(make([]int, 0, 9), 1, 1, 0, 0)
	lists := append(slices.Concat(a.Rows, b.Rows, whole.Rows), v)
	for name, have := range map[string]api.Matrix{
		"Sum":           first(space.Sum(f, a, b)),
		"Sum of one":    first(space.Sum(f, a, a)),
		"Sum of all":    first(space.Sum(f, a, whole)),
		"Meet":          first(space.Meet(f, a, b)),
		"Meet of all":   first(space.Meet(f, whole, whole)),
		"Dual":          first(space.Dual(f, a)),
		"Quotient":      first(space.Quotient(f, a, whole)),
		"Quotient by 0": first(space.Quotient(f, rows(4), b)),
		"Supported":     first(space.Supported(f, a, []int{0, 1, 2, 3})),
	} {
		disjoint(t, name, slices.Concat(lists, have.Rows)...)
	}
	w, _ := space.Reduce(f, a, v)
	disjoint(t, "Reduce", append(slices.Clone(lists), w)...)
	w, _ = space.Reduce(f, rows(4), v)
	disjoint(t, "Reduce by 0", append(slices.Clone(lists), w)...)
	w, _ = space.Coordinates(f, whole, v)
	disjoint(t, "Coordinates", append(slices.Clone(lists), w)...)
	if !equal(a, rows(4, "1003", "0102")) || !equal(b, rows(4, "1000", "0100", "0001")) || !slices.Equal(v, []int{1, 1, 0, 0}) {
		t.Errorf("Rules: an argument is changed: %v, %v, %v", a, b, v)
	}
	if rest := spare[2:9]; slices.ContainsFunc(rest, func(l []int) bool { return l != nil }) {
		t.Errorf("Rules: memory behind an argument is changed: %v", rest)
	}
}

func first(m api.Matrix, _ api.Errno) api.Matrix { return m }

// largest returns the space of all words of length n, and spaces of half the dimension that have only the zero word in common.
func largest(t *testing.T, g *field.GF, n int) (whole, a, b api.Matrix) {
	t.Helper()
	whole, a, b = api.Matrix{Cols: n}, api.Matrix{Cols: n}, api.Matrix{Cols: n}
	for i := range n {
		row := make([]int, n)
		row[i] = 1
		whole.Rows = append(whole.Rows, row)
		if i < n/2 {
			row = slices.Clone(row)
			row[n/2+i] = g.Order() - 1
			a.Rows = append(a.Rows, row)
		} else {
			b.Rows = append(b.Rows, row)
		}
	}
	return whole, a, b
}

// TestLargestSpaces sums up spaces that have more rows together than a matrix may have.
func TestLargestSpaces(t *testing.T) {
	for _, q := range []int{2, 3, 256} {
		g := standard(t, q)
		f := g.Field()
		whole, a, b := largest(t, g, 256)
		m, e := space.Sum(f, whole, whole)
		sameMatrix(t, m, e, whole, "P10.2: Sum", g, "of all words twice")
		m, e = space.Sum(f, a, whole)
		sameMatrix(t, m, e, whole, "P10.2: Sum", g, "of a half and all words")
		m, e = space.Sum(f, a, b)
		sameMatrix(t, m, e, whole, "P10.2: Sum", g, "of two halves")
		m, e = space.Meet(f, a, b)
		sameMatrix(t, m, e, rows(256), "P10.2: Meet", g, "of two halves")
		m, e = space.Meet(f, rows(256), rows(256))
		sameMatrix(t, m, e, rows(256), "P10.2: Meet", g, "of zero spaces")
		m, e = space.Meet(f, whole, a)
		sameMatrix(t, m, e, a, "P10.2: Meet", g, "of all words and a half")
		m, e = space.Dual(f, rows(256))
		sameMatrix(t, m, e, whole, "P10.2: Dual", g, "of the zero space")
		m, e = space.Quotient(f, a, whole)
		sameMatrix(t, m, e, b, "P10.4: Quotient", g, "of all words by a half")
		m, e = space.Supported(f, whole, leads(b))
		sameMatrix(t, m, e, b, "P10.4: Supported", g, "at a half of the positions")
		m, e = space.Supported(f, a, leads(b))
		sameMatrix(t, m, e, rows(256), "P10.4: Supported", g, "outside the pivots")
	}
}
