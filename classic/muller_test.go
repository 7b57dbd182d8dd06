package classic_test

import (
	"cmp"
	"math"
	"slices"
	"testing"

	"codewright/api"
	"codewright/classic"
	"codewright/code"
)

// subsets returns the ascending lists of numbers from 0 to m-1 with at most r entries, by their lengths, and those of one length in lexicographic order.
func subsets(r, m int) [][]int {
	var list [][]int
	for set := range 1 << m {
		var l []int
		for v := range m {
			if set>>v&1 == 1 {
				l = append(l, v)
			}
		}
		if len(l) <= r {
			list = append(list, l)
		}
	}
	slices.SortFunc(list, func(a, b []int) int {
		return cmp.Or(cmp.Compare(len(a), len(b)), slices.Compare(a, b))
	})
	return list
}

// product returns the values of the product of the variables.
func product(m int, vars []int) []int {
	list := make([]int, power(2, m))
	for p := range list {
		list[p] = 1
		for _, v := range vars {
			list[p] *= p / power(2, v) % 2
		}
	}
	return list
}

func TestEvaluate(t *testing.T) {
	for m := 0; m <= 6; m++ {
		for _, vars := range subsets(m, m) {
			kept := slices.Clone(vars)
			have, e := classic.Evaluate(m, vars)
			if want := product(m, vars); e != api.OK || !slices.Equal(have, want) || !slices.Equal(vars, kept) {
				t.Errorf("P15.4: Evaluate(%d, %v): have %v and error %d, want %v", m, vars, have, e, want)
			}
		}
	}
	for text, vars := range map[string][]int{"0101": {0}, "0011": {1}, "0001": {0, 1}, "1111": {}} {
		have, e := classic.Evaluate(2, vars)
		sameRows(t, [][]int{have}, e, digits(text), "Examples: Evaluate", vars)
	}
}

func TestErrorsOfEvaluate(t *testing.T) {
	for _, m := range []int{-1, 7, 64, math.MinInt, math.MaxInt} {
		for _, vars := range [][]int{nil, {0}, {1, 0}, {-1}} {
			failed(t, map[string]result{"Evaluate": ofRow(classic.Evaluate(m, vars))}, api.ErrRange, "P15.4", m, vars)
		}
	}
	for m := 0; m <= 6; m++ {
		for _, vars := range [][]int{{-1}, {m}, {m + 1}, {-1, 0}, {0, m}, {1, 0}, {0, 0}, {0, 1, 1}, {2, 3, 1}, {0, 1, 2, 3, 4, 5, 6}, {math.MinInt}, {math.MaxInt}, {0, math.MaxInt}} {
			failed(t, map[string]result{"Evaluate": ofRow(classic.Evaluate(m, vars))}, api.ErrForm, "P15.4", m, vars)
		}
	}
}

func TestMonomials(t *testing.T) {
	for m := 0; m <= 6; m++ {
		for r := -1; r <= m; r++ {
			have, e := classic.Monomials(r, m)
			sameRows(t, have, e, subsets(r, m), "P15.4: Monomials", r, m)
			for i, l := range have {
				have[i] = append(l, -1)
				for j := range l {
					l[j] = -1
				}
			}
			again, e := classic.Monomials(r, m)
			sameRows(t, again, e, subsets(r, m), "Rules: Monomials is new memory", r, m)
		}
	}
	have, e := classic.Monomials(2, 3)
	sameRows(t, have, e, [][]int{{}, {0}, {1}, {2}, {0, 1}, {0, 2}, {1, 2}}, "Examples: Monomials")
	for i := range have {
		have[i] = append(have[i], -1)
	}
	sameRows(t, have, api.OK, [][]int{{-1}, {0, -1}, {1, -1}, {2, -1}, {0, 1, -1}, {0, 2, -1}, {1, 2, -1}}, "Rules: the monomials share no memory")
}

func TestErrorsOfMonomials(t *testing.T) {
	of := func(r, m int) map[string]result {
		return map[string]result{"Monomials": ofRows(classic.Monomials(r, m)), "ReedMuller": ofCode(classic.ReedMuller(r, m))}
	}
	for _, m := range []int{-1, -2, 7, 8, 64, math.MinInt, math.MaxInt} {
		for _, r := range []int{-2, -1, 0, 1, 6, 7, m} {
			failed(t, of(r, m), api.ErrRange, "P15.4", r, m)
		}
	}
	for m := 0; m <= 6; m++ {
		for _, r := range []int{-2, -3, m + 1, m + 2, math.MinInt, math.MaxInt} {
			failed(t, of(r, m), api.ErrRange, "P15.4", r, m)
		}
	}
}

func TestReedMuller(t *testing.T) {
	g := standard(t, 2)
	for m := 0; m <= 6; m++ {
		for r := -1; r <= m; r++ {
			var rows [][]int
			for _, vars := range subsets(r, m) {
				rows = append(rows, product(m, vars))
			}
			c, e := classic.ReedMuller(r, m)
			sameCode(t, c, e, generated(t, g, power(2, m), rows), "P15.4: ReedMuller", r, m)
			if len(c.Gen) != len(rows) {
				t.Errorf("P15.5: ReedMuller(%d, %d) has the dimension %d", r, m, len(c.Gen))
			}
			d, e := classic.ReedMuller(m-r-1, m)
			sameCode(t, d, e, dual(t, c), "P15.5: the dual of ReedMuller", r, m)
			if r >= 0 && len(c.Gen) <= 16 && distance(c) != power(2, m-r) {
				t.Errorf("P15.5: the distance of ReedMuller(%d, %d) is %d", r, m, distance(c))
			}
			if m > 0 {
				halves(t, r, m, c)
			}
		}
	}
}

// halves reports an error unless c, the code of order r in m variables, has just the words (u, u + v) of P15.5.
func halves(t *testing.T, r, m int, c api.Code) {
	t.Helper()
	a, e := classic.ReedMuller(min(r, m-1), m-1)
	b, e2 := classic.ReedMuller(max(r-1, -1), m-1)
	if e != api.OK || e2 != api.OK || len(c.Gen) != len(a.Gen)+len(b.Gen) {
		t.Fatalf("P15.5: ReedMuller(%d, %d): dimensions %d, %d and %d", r, m, len(c.Gen), len(a.Gen), len(b.Gen))
	}
	for _, u := range a.Gen {
		has(t, c, slices.Concat(u, u), "P15.5: the halves", r, m)
	}
	for _, v := range b.Gen {
		has(t, c, slices.Concat(make([]int, a.N), v), "P15.5: the halves", r, m)
	}
}

// TestWordsOfReedMuller goes through all words of length 8: those whose polynomials have at most the degree r.
func TestWordsOfReedMuller(t *testing.T) {
	g := standard(t, 2)
	for r := -1; r <= 3; r++ {
		c, e := classic.ReedMuller(r, 3)
		if e != api.OK {
			t.Fatal(r, e)
		}
		for _, w := range words(g, 8) {
			in, e := code.Has(c, w)
			if want := degree(w) <= r; e != api.OK || in != want {
				t.Errorf("P15.4: ReedMuller(%d, 3): %v: have %v and error %d", r, w, in, e)
			}
		}
	}
}

// degree returns the degree of the polynomial with the values w, and -1 for the zero word: the coefficient of a monomial is the sum of the values at the points where no other variable is 1.
func degree(w []int) int {
	most := -1
	for monomial := range w {
		sum, size := 0, 0
		for p, x := range w {
			if p&^monomial == 0 {
				sum += x
			}
		}
		for v := monomial; v > 0; v /= 2 {
			size += v % 2
		}
		if sum%2 == 1 {
			most = max(most, size)
		}
	}
	return most
}
