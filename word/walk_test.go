package word_test

import (
	"math"
	"slices"
	"testing"

	"codewright/api"
	"codewright/field"
	"codewright/word"
)

func TestCount(t *testing.T) {
	for _, g := range fields(t) {
		for n := range api.MaxN + 1 {
			want := power(g.Order(), n)
			if want < 0 {
				failed(t, map[string]result{"Count": ofInt(word.Count(g, n))}, api.ErrBig, "P11.3", g.Order(), n)
				continue
			}
			have, e := word.Count(g, n)
			sameInt(t, have, e, want, "P11.3: Count", g.Order(), n)
		}
	}
	for _, x := range [][2]int{{2, 16}, {4, 8}, {16, 4}, {256, 2}} {
		have, e := word.Count(standard(t, x[0]), x[1])
		sameInt(t, have, e, 65536, "P11.3: Count", x)
	}
}

// ofLength returns what the functions of a length return for n, with other arguments that have errors of their own.
func ofLength(g *field.GF, n int) map[string]result {
	_, e := word.Count(g, n)
	results := map[string]result{
		"Count":                   ofInt(word.Count(g, n)),
		"FromIndex with index 0":  ofList(word.FromIndex(g, n, 0)),
		"FromIndex with index -1": ofList(word.FromIndex(g, n, -1)),
		"Steps":                   ofSteps(word.Steps(g, n)),
		"Walk":                    {e, len(collected(g, n)) == 0},
	}
	if n >= 0 && n < 1000 {
		results["Index"] = ofInt(word.Index(g, make([]int, n)))
	}
	return results
}

func TestErrorsOfLengths(t *testing.T) {
	for _, g := range fields(t) {
		for _, n := range []int{-1, -2, 65, 66, 100, math.MaxInt, math.MinInt} {
			failed(t, ofLength(g, n), api.ErrRange, "P11.3, P11.4", g.Order(), n)
		}
		least := 0
		for power(g.Order(), least) >= 0 {
			least++
		}
		for _, n := range []int{least, least + 1, 63, 64} {
			failed(t, ofLength(g, n), api.ErrBig, "P11.3, P11.4", g.Order(), n)
		}
	}
}

func TestIndices(t *testing.T) {
	for _, g := range fields(t) {
		for n := 0; power(g.Order(), n) >= 0; n++ {
			for i, want := range listed(g.Order(), n) {
				w, e := word.FromIndex(g, n, i)
				sameList(t, w, e, want, "P11.3: FromIndex", g.Order(), n, i)
				have, e := word.Index(g, want)
				sameInt(t, have, e, i, "P11.3: Index", g.Order(), want)
			}
			for _, i := range []int{-1, power(g.Order(), n), power(g.Order(), n) + 1, math.MaxInt, math.MinInt} {
				failed(t, map[string]result{"FromIndex": ofList(word.FromIndex(g, n, i))}, api.ErrRange, "P11.3", g.Order(), n, i)
			}
		}
		for _, x := range strangers(g) {
			have, e := word.Index(g, []int{1, x})
			sameInt(t, have, e, g.Order(), "P11.3: Index", g.Order(), x)
			have, e = word.Index(g, []int{x, 1})
			sameInt(t, have, e, 1, "P11.3: Index", g.Order(), x)
		}
	}
}

// reflected returns the words of the reflected walk: behind an odd first entry, the walk through the words of length n-1 is gone backwards.
func reflected(q, n int) [][]int {
	if n == 0 {
		return [][]int{{}}
	}
	rest := reflected(q, n-1)
	var list [][]int
	for x := range q {
		for _, w := range rest {
			list = append(list, append([]int{x}, w...))
		}
		slices.Reverse(rest)
	}
	return list
}

// numbered returns the word number t of the reflected walk, by the formula of the document.
func numbered(q, n, t int) []int {
	var list []int
	for i := range n {
		before, upTo := t, t
		for range n - i {
			before /= q
		}
		for range n - i - 1 {
			upTo /= q
		}
		d := upTo % q
		if before%2 == 1 {
			d = q - 1 - d
		}
		list = append(list, d)
	}
	return list
}

func TestReflectedWalk(t *testing.T) {
	for _, g := range fields(t) {
		q := g.Order()
		for n := 0; power(q, n) >= 0; n++ {
			walk := collected(g, n)
			if !sameLists(walk, reflected(q, n)) {
				t.Errorf("P11.4: Walk(%d) over %d elements is not reflected", n, q)
			}
			for i, w := range walk {
				sameList(t, w, api.OK, numbered(q, n, i), "P11.4: Walk", q, n, i)
			}
			steps, e := word.Steps(g, n)
			if e != api.OK || len(steps) != power(q, n)-1 {
				t.Fatalf("P11.4: Steps(%d) over %d elements: %d steps and error %d", n, q, len(steps), e)
			}
			w := make([]int, n)
			for i, s := range steps {
				if w[s.Pos] != s.Old || s.New-s.Old != 1 && s.New-s.Old != -1 {
					t.Errorf("P11.4: Steps(%d) over %d elements: step %v of %v", n, q, s, w)
				}
				w[s.Pos] = s.New
				sameList(t, w, api.OK, walk[i+1], "P11.4: Steps", q, n, i)
			}
		}
	}
}

func TestWalkStops(t *testing.T) {
	g := standard(t, 3)
	walk := word.Walk(g, 3)
	want := reflected(3, 3)
	for stop := range len(want) + 1 {
		var have [][]int
		for w := range walk {
			if len(have) == stop {
				break
			}
			have = append(have, w)
		}
		if !sameLists(have, want[:stop]) {
			t.Errorf("P11.4: Walk, stopped behind %d words: have %v", stop, have)
		}
	}
}

func TestWalkYieldsNewLists(t *testing.T) {
	g := standard(t, 4)
	want := reflected(4, 2)
	walk, at := word.Walk(g, 2), 0
	for w := range walk {
		sameList(t, w, api.OK, want[at], "P11.4: Walk", at)
		inner := 0
		for v := range walk {
			sameList(t, v, api.OK, want[inner], "P11.4: Walk within a walk", at, inner)
			v[0], v[1] = -1, -1
			inner++
		}
		sameList(t, w, api.OK, want[at], "P11.4: Walk", at)
		w[0], w[1] = -1, -1
		at++
	}
	if at != len(want) {
		t.Errorf("P11.4: Walk: %d words, want %d", at, len(want))
	}
}
