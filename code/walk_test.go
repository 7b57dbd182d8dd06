package code_test

import (
	"slices"
	"testing"

	"codewright/api"
	"codewright/code"
	"codewright/field"
)

// units returns the code of length n whose words are 0 behind the first k positions.
func units(g *field.GF, n, k int) api.Code {
	c := api.Code{F: g.Field(), N: n}
	for i := range k {
		row := make([]int, n)
		row[i] = 1
		c.Gen = append(c.Gen, row)
	}
	return c
}

func TestSize(t *testing.T) {
	for _, g := range fields(t) {
		size := 1
		for k := range api.MaxN + 1 {
			c := units(g, api.MaxN, k)
			if size > api.MaxWords {
				failed(t, map[string]result{"Size": ofInt(code.Size(c)), "Words": ofLists(code.Words(c))}, api.ErrBig, "P12.5", g.Order(), k)
				continue
			}
			n, e := code.Size(c)
			if e != api.OK || n != size {
				t.Errorf("P12.5: Size: %d elements, dimension %d: have %d and error %d, want %d", g.Order(), k, n, e, size)
			}
			if list, e := code.Words(c); size == api.MaxWords && (e != api.OK || len(list) != size) {
				t.Errorf("P12.5: Words: %d elements, dimension %d: have %d words and error %d, want %d", g.Order(), k, len(list), e, size)
			}
			size *= g.Order()
		}
	}
}

func TestWordsAndWalk(t *testing.T) {
	r := &random{state: 1}
	for _, g := range fields(t) {
		for _, n := range []int{1, 2, 5, 16, 64} {
			for k := 0; k <= min(n, longest(g, api.MaxWords)); k++ {
				if k > 3 && k < longest(g, api.MaxWords) {
					continue
				}
				c := r.code(t, g, k, n)
				kept := copied(c)
				var want [][]int
				for _, msg := range words(g, len(c.Gen)) {
					want = append(want, combined(g, msg, n, c.Gen))
				}
				if !slices.IsSortedFunc(want, slices.Compare) {
					t.Fatalf("the test is wrong: %v", c)
				}
				list, e := code.Words(c)
				if e != api.OK || !sameLists(list, want) {
					t.Errorf("P12.5: Words(%v): %d words and error %d", c, len(list), e)
				}
				walked(t, c, want)
				sameCode(t, c, api.OK, kept, "Rules: an argument")
			}
		}
	}
}

// walked reports an error unless Walk yields the words want of c.
func walked(t *testing.T, c api.Code, want [][]int) {
	t.Helper()
	at := 0
	for i, w := range code.Walk(c) {
		if i != at || at >= len(want) || !slices.Equal(w, want[at]) {
			t.Fatalf("P12.5: Walk(%v): yields %d and %v, as number %d", c, i, w, at)
		}
		at++
	}
	if at != len(want) {
		t.Errorf("P12.5: Walk(%v): %d words, want %d", c, at, len(want))
	}
}

// TestWalkOverLargeCodes goes through the first words of codes that have far too many words to count them.
func TestWalkOverLargeCodes(t *testing.T) {
	for _, g := range fields(t) {
		q := g.Order()
		c := units(g, api.MaxN, api.MaxN)
		for i, w := range code.Walk(c) {
			if i == 70000 {
				break
			}
			rest := i
			for _, x := range slices.Backward(w) {
				if x != rest%q {
					t.Fatalf("P12.5: Walk over all words: %d: have %v", i, w)
				}
				rest /= q
			}
		}
	}
}

func TestWalkStops(t *testing.T) {
	g := standard(t, 3)
	c := coded(g, 5, "10200", "01120", "00001")
	want, _ := code.Words(c)
	walk := code.Walk(c)
	for stop := range len(want) + 1 {
		var have [][]int
		for i, w := range walk {
			if len(have) == stop {
				break
			}
			if i != len(have) {
				t.Errorf("P12.5: Walk, stopped behind %d words: index %d, want %d", stop, i, len(have))
			}
			have = append(have, w)
		}
		if !sameLists(have, want[:stop]) {
			t.Errorf("P12.5: Walk, stopped behind %d words: have %v", stop, have)
		}
	}
}

// TestWalkKeepsNothing changes the words that are yielded, and the code, while the walk goes on.
func TestWalkKeepsNothing(t *testing.T) {
	for _, c := range []api.Code{coded(standard(t, 4), 4, "1023", "0131"), coded(standard(t, 9), 3), coded(standard(t, 2), 3, "110")} {
		want, _ := code.Words(c)
		walk, at := code.Walk(c), 0
		c.F.P, c.F.M, c.N = 7, 1, 2
		for _, row := range c.Gen {
			row[0], row[1] = 0, 0
		}
		if len(c.F.Mod) > 0 {
			c.F.Mod[0] = 0
		}
		for i, w := range walk {
			inner := 0
			for j, v := range walk {
				sameList(t, v, api.OK, want[inner], "P12.5: Walk within a walk", j)
				v[0], v[1] = -1, -1
				inner++
			}
			sameList(t, w, api.OK, want[at], "P12.5: Walk", i)
			w[0], w[1] = -1, -1
			at++
		}
		if at != len(want) {
			t.Errorf("P12.5: Walk: %d words, want %d", at, len(want))
		}
	}
}

// disjoint reports an error unless a change of one of the lists changes none of the others.
func disjoint(t *testing.T, name string, lists ...[]int) {
	t.Helper()
	var kept [][]int
	for i, l := range lists {
		for j := range l {
			l[j] = i + j
		}
		kept = append(kept, slices.Clone(l))
	}
	if !sameLists(lists, kept) {
		t.Errorf("Rules: %s: two lists share memory", name)
	}
}

func TestResultsAreNewMemory(t *testing.T) {
	g := standard(t, 9)
	c := coded(g, 4, "1023", "0131")
	d := coded(g, 4, "1000", "0100", "0010")
	f := g.Field()
	parts := func(l ...api.Code) [][]int {
		var lists [][]int
		for _, x := range l {
			lists = append(append(lists, x.F.Mod), x.Gen...)
		}
		return lists
	}
	m, _ := code.Matrix(c)
	disjoint(t, "Matrix", append(parts(copied(c), c), m.Rows...)...)
	for name, of := range map[string]func(c, d api.Code) (api.Code, api.Errno){
		"Sum":  code.Sum,
		"Meet": code.Meet,
		"Dual": func(c, _ api.Code) (api.Code, api.Errno) { return code.Dual(c) },
		"Hull": func(_, d api.Code) (api.Code, api.Errno) { return code.Hull(d) },
		"New": func(c, _ api.Code) (api.Code, api.Errno) {
			return code.New(c.F, api.Matrix{Cols: c.N, Rows: c.Gen})
		},
		"Whole":      func(c, _ api.Code) (api.Code, api.Errno) { return code.Whole(c.F, 3) },
		"Sum of one": func(c, _ api.Code) (api.Code, api.Errno) { return code.Sum(c, c) },
	} {
		a, b := coded(g, 4, "1023", "0131"), coded(g, 4, "1000", "0100", "0010")
		out, e := of(a, b)
		if e != api.OK {
			t.Fatal(name, e)
		}
		disjoint(t, name, parts(a, b, out)...)
	}
	w := []int{1, 1, 1, 1}
	msg, _ := code.Message(d, []int{1, 2, 3, 0})
	word, _ := code.Encode(d, msg)
	p, _ := code.Pivots(d)
	s, _ := code.Syndrome(d, w)
	list, _ := code.Words(coded(g, 4, "1023"))
	disjoint(t, "lists", append(append(parts(d), f.Mod, w, msg, word, p, s), list...)...)
}
