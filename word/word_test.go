package word_test

import (
	"math"
	"slices"
	"testing"

	"codewright/api"
	"codewright/field"
	"codewright/word"
)

// element returns x, or 0 if it is not an element of g.
func element(g *field.GF, x int) int {
	if x < 0 || x >= g.Order() {
		return 0
	}
	return x
}

func TestWordsOfOneList(t *testing.T) {
	r := &random{state: 1}
	for _, g := range fields(t) {
		for _, n := range []int{0, 1, 2, 3, 10, 64, 65, 300} {
			w := r.list(g, n)
			kept := slices.Clone(w)
			var clean, support []int
			for i, x := range w {
				clean = append(clean, element(g, x))
				if clean[i] != 0 {
					support = append(support, i)
				}
			}
			sameList(t, word.Clean(g, w), api.OK, clean, "P11.1: Clean", g.Order(), w)
			sameInt(t, word.Weight(g, w), api.OK, len(support), "P11.1: Weight", g.Order(), w)
			sameList(t, word.Support(g, w), api.OK, support, "P11.1: Support", g.Order(), w)
			sameList(t, w, api.OK, kept, "Rules: an argument")
		}
	}
}

func TestWordsOfTwoLists(t *testing.T) {
	r := &random{state: 2}
	for _, g := range fields(t) {
		for _, n := range []int{0, 1, 2, 3, 10, 64, 65, 300} {
			a, b := r.list(g, n), r.list(g, n)
			copy(b[n/2:], a[n/2:])
			keptA, keptB := slices.Clone(a), slices.Clone(b)
			var sum, difference []int
			distance, inner := 0, 0
			for i := range n {
				x, y := element(g, a[i]), element(g, b[i])
				if x != y {
					distance++
				}
				sum, difference = append(sum, g.Add(x, y)), append(difference, g.Sub(x, y))
				inner = g.Add(inner, g.Mul(x, y))
			}
			d, e := word.Distance(g, a, b)
			sameInt(t, d, e, distance, "P11.1: Distance", g.Order(), a, b)
			p, e := word.Inner(g, a, b)
			sameInt(t, p, e, inner, "P11.1: Inner", g.Order(), a, b)
			l, e := word.Add(g, a, b)
			sameList(t, l, e, sum, "P11.1: Add", g.Order(), a, b)
			l, e = word.Sub(g, a, b)
			sameList(t, l, e, difference, "P11.1: Sub", g.Order(), a, b)
			sameList(t, a, api.OK, keptA, "Rules: an argument")
			sameList(t, b, api.OK, keptB, "Rules: an argument")
		}
	}
}

func TestStrangersCountAsZero(t *testing.T) {
	for _, g := range fields(t) {
		for _, x := range strangers(g) {
			sameList(t, word.Clean(g, []int{1, x, 1}), api.OK, []int{1, 0, 1}, "P11.1: Clean", g.Order(), x)
			sameInt(t, word.Weight(g, []int{1, x, 1}), api.OK, 2, "P11.1: Weight", g.Order(), x)
			sameList(t, word.Support(g, []int{1, x, 1}), api.OK, []int{0, 2}, "P11.1: Support", g.Order(), x)
			for _, y := range append(strangers(g), 0) {
				d, e := word.Distance(g, []int{1, x, y, y}, []int{1, y, x, 1})
				sameInt(t, d, e, 1, "P11.1: Distance", g.Order(), x, y)
			}
			l, e := word.Sub(g, []int{x, x, 1}, []int{x, 1, x})
			sameList(t, l, e, []int{0, g.Neg(1), 1}, "P11.1: Sub", g.Order(), x)
			l, e = word.Add(g, []int{x, x, 1}, []int{x, 1, x})
			sameList(t, l, e, []int{0, 1, 1}, "P11.1: Add", g.Order(), x)
			p, e := word.Inner(g, []int{x, x, 1, 1}, []int{x, 1, x, 1})
			sameInt(t, p, e, 1, "P11.1: Inner", g.Order(), x)
		}
	}
}

func TestUnlikeLengths(t *testing.T) {
	for _, g := range fields(t) {
		for _, x := range [][2][]int{{nil, {0}}, {{0}, nil}, {{1}, {1, 0}}, {{1, 1, 1}, {1, 1}}, {{-1}, {-1, -1}}, {make([]int, 100), make([]int, 99)}} {
			a, b := x[0], x[1]
			failed(t, map[string]result{
				"Distance": ofInt(word.Distance(g, a, b)),
				"Inner":    ofInt(word.Inner(g, a, b)),
				"Add":      ofList(word.Add(g, a, b)),
				"Sub":      ofList(word.Sub(g, a, b)),
			}, api.ErrLength, "P11.1", g.Order(), a, b)
		}
	}
}

func TestResultsAreNewMemory(t *testing.T) {
	g := standard(t, 5)
	w, zero := []int{1, 2, 3}, []int{0, 0, 0}
	clean := word.Clean(g, w)
	sum, _ := word.Add(g, w, zero)
	difference, _ := word.Sub(g, w, zero)
	for _, l := range [][]int{clean, sum, difference} {
		sameList(t, l, api.OK, w, "P11.1", w)
		l[0], l[1], l[2] = 4, 4, 4
		sameList(t, w, api.OK, []int{1, 2, 3}, "Rules: a result shares memory with an argument")
	}
}

// less reports whether a is less than b, by the definition of the lexicographic order.
func less(a, b []int) bool {
	for i := range min(len(a), len(b)) {
		if a[i] != b[i] {
			return a[i] < b[i]
		}
	}
	return len(a) < len(b)
}

func TestCompare(t *testing.T) {
	entries := []int{-1, 0, 1, 300, math.MinInt, math.MaxInt}
	var lists [][]int
	for n := range 4 {
		for _, w := range listed(len(entries), n) {
			for i, x := range w {
				w[i] = entries[x]
			}
			lists = append(lists, w)
		}
	}
	for _, a := range lists {
		for _, b := range lists {
			want := 0
			switch {
			case less(a, b):
				want = -1
			case less(b, a):
				want = 1
			}
			if have := word.Compare(a, b); have != want {
				t.Errorf("P11.2: Compare(%v, %v): have %d, want %d", a, b, have, want)
			}
		}
	}
	if have := word.Compare(nil, []int{}); have != 0 {
		t.Errorf("P11.2: Compare(nil, []): have %d, want 0", have)
	}
}

func TestExamples(t *testing.T) {
	g := standard(t, 3)
	sameInt(t, word.Weight(g, []int{1, 0, 2, 3}), api.OK, 2, "Examples: Weight")
	sameList(t, word.Support(g, []int{1, 0, 2, 3}), api.OK, []int{0, 2}, "Examples: Support")
	d, e := word.Distance(g, []int{1, 2, 0}, []int{1, 0, 5})
	sameInt(t, d, e, 1, "Examples: Distance")
	w, e := word.FromIndex(g, 3, 5)
	sameList(t, w, e, []int{0, 1, 2}, "Examples: FromIndex")
	i, e := word.Index(g, []int{0, 1, 2})
	sameInt(t, i, e, 5, "Examples: Index")
	if walk := collected(g, 2); !sameLists(walk, [][]int{{0, 0}, {0, 1}, {0, 2}, {1, 2}, {1, 1}, {1, 0}, {2, 0}, {2, 1}, {2, 2}}) {
		t.Errorf("Examples: Walk: have %v", walk)
	}
	if steps, e := word.Steps(g, 2); e != api.OK || steps[3] != (api.Change{Pos: 1, Old: 2, New: 1}) {
		t.Errorf("Examples: Steps: have %v and error %d", steps, e)
	}
	if have := word.Compare([]int{1, 2}, []int{1, 2, 0}); have != -1 {
		t.Errorf("Examples: Compare: have %d", have)
	}
	if l, e := word.Subsets(4, 2); e != api.OK || !sameLists(l, [][]int{{0, 1}, {0, 2}, {0, 3}, {1, 2}, {1, 3}, {2, 3}}) {
		t.Errorf("Examples: Subsets: have %v and error %d", l, e)
	}
	n, e := word.Rank(4, []int{1, 2})
	sameInt(t, n, e, 3, "Examples: Rank")
	n, e = word.Binomial(64, 32)
	sameInt(t, n, e, 1832624140942590534, "Examples: Binomial")
}
