package combine_test

import (
	"math"
	"slices"
	"testing"

	"codewright/api"
	"codewright/combine"
	"codewright/field"
)

// TestSumAndPlotkin compares with all words.
func TestSumAndPlotkin(t *testing.T) {
	r := &random{state: 1}
	for _, g := range small(t) {
		for na := 1; na <= longest(g, 27); na++ {
			for nb := 1; nb <= longest(g, 27); nb++ {
				for range 8 {
					a, b := r.code(t, g, r.below(na+1), na), r.code(t, g, r.below(nb+1), nb)
					keptA, keptB := copied(a), copied(b)
					sumOf(t, g, a, b)
					plotkin(t, g, a, r.code(t, g, r.below(na+1), na))
					sameCode(t, a, api.OK, keptA, "Rules: an argument")
					sameCode(t, b, api.OK, keptB, "Rules: an argument")
				}
			}
		}
	}
}

// sumOf reports an error unless Sum is right for a and b.
func sumOf(t *testing.T, g *field.GF, a, b api.Code) {
	t.Helper()
	var want [][]int
	for _, u := range spanned(g, a.N, a.Gen) {
		for _, v := range spanned(g, b.N, b.Gen) {
			want = append(want, slices.Concat(u, v))
		}
	}
	have, e := combine.Sum(a, b)
	isCodeOf(t, have, e, g, a.N+b.N, want, "P14.1: Sum", a, b)
	least := distance(g, a)
	if d := distance(g, b); least == 0 || d > 0 && d < least {
		least = d
	}
	if d := distance(g, have); d != least {
		t.Errorf("P14.7: the distance of Sum(%v, %v) is %d, want %d", a, b, d, least)
	}
}

// plotkin reports an error unless Plotkin is right for a and b.
func plotkin(t *testing.T, g *field.GF, a, b api.Code) {
	t.Helper()
	var want [][]int
	for _, u := range spanned(g, a.N, a.Gen) {
		for _, v := range spanned(g, b.N, b.Gen) {
			want = append(want, slices.Concat(u, plus(g, u, v)))
		}
	}
	have, e := combine.Plotkin(a, b)
	isCodeOf(t, have, e, g, 2*a.N, want, "P14.1: Plotkin", a, b)
	least := 2 * distance(g, a)
	if d := distance(g, b); least == 0 || d > 0 && d < least {
		least = d
	}
	if d := distance(g, have); d != least {
		t.Errorf("P14.7: the distance of Plotkin(%v, %v) is %d, want %d", a, b, d, least)
	}
}

func TestSumAndPlotkinOfLargerCodes(t *testing.T) {
	r := &random{state: 2}
	for _, g := range fields(t) {
		for _, n := range [][2]int{{1, 63}, {63, 1}, {32, 32}, {20, 31}, {5, 5}} {
			for range 4 {
				a, b := r.code(t, g, r.below(n[0]+1), n[0]), r.code(t, g, r.below(n[1]+1), n[1])
				largerSum(t, g, a, b)
				if a.N == b.N {
					largerPlotkin(t, g, a, b)
				}
			}
		}
		whole := units(g, 32)
		largerSum(t, g, whole, whole)
		largerPlotkin(t, g, whole, whole)
		largerSum(t, g, coded(g, 32), coded(g, 32))
		largerPlotkin(t, g, coded(g, 32), coded(g, 32))
	}
}

// units returns the code of all words of length n.
func units(g *field.GF, n int) api.Code {
	c := api.Code{F: g.Field(), N: n}
	for i := range n {
		row := make([]int, n)
		row[i] = 1
		c.Gen = append(c.Gen, row)
	}
	return c
}

// largerSum reports an error unless Sum is right for a and b, by its dimension and by words of it.
func largerSum(t *testing.T, g *field.GF, a, b api.Code) {
	t.Helper()
	var list [][]int
	for _, u := range a.Gen {
		list = append(list, slices.Concat(u, make([]int, b.N)))
	}
	for _, v := range b.Gen {
		list = append(list, slices.Concat(make([]int, a.N), v))
	}
	sum, e := combine.Sum(a, b)
	spansCode(t, sum, e, g, a.N+b.N, len(a.Gen)+len(b.Gen), list, "P14.1: Sum", a, b)
	have, e := combine.Sum(dual(t, a), dual(t, b))
	sameCode(t, have, e, dual(t, sum), "P14.7: the dual of a direct sum", a, b)
}

// largerPlotkin reports an error unless Plotkin is right for a and b, by its dimension and by words of it.
func largerPlotkin(t *testing.T, g *field.GF, a, b api.Code) {
	t.Helper()
	var list, dualList [][]int
	for _, u := range a.Gen {
		list = append(list, slices.Concat(u, u))
	}
	for _, v := range b.Gen {
		list = append(list, slices.Concat(make([]int, a.N), v))
	}
	have, e := combine.Plotkin(a, b)
	spansCode(t, have, e, g, 2*a.N, len(a.Gen)+len(b.Gen), list, "P14.1: Plotkin", a, b)
	for _, u := range dual(t, a).Gen {
		dualList = append(dualList, slices.Concat(u, make([]int, a.N)))
	}
	for _, v := range dual(t, b).Gen {
		dualList = append(dualList, slices.Concat(g.Scale(g.Neg(1), v), v))
	}
	spansCode(t, dual(t, have), api.OK, g, 2*a.N, 2*a.N-len(have.Gen), dualList, "P14.7: the dual of Plotkin", a, b)
}

// TestJuxtapose compares with all messages.
func TestJuxtapose(t *testing.T) {
	r := &random{state: 3}
	for _, g := range small(t) {
		for na := 1; na <= longest(g, 81); na++ {
			for nb := 1; nb <= longest(g, 81); nb++ {
				for k := 0; k <= min(na, nb); k++ {
					a, b := r.exact(t, g, k, na), r.exact(t, g, k, nb)
					keptA, keptB := copied(a), copied(b)
					var want [][]int
					for _, msg := range words(g, k) {
						want = append(want, slices.Concat(combined(g, msg, a), combined(g, msg, b)))
					}
					have, e := combine.Juxtapose(a, b)
					isCodeOf(t, have, e, g, na+nb, want, "P14.2: Juxtapose", a, b)
					if d := distance(g, have); k > 0 && d < distance(g, a)+distance(g, b) {
						t.Errorf("P14.7: the distance of Juxtapose(%v, %v) is %d", a, b, d)
					}
					sameCode(t, a, api.OK, keptA, "Rules: an argument")
					sameCode(t, b, api.OK, keptB, "Rules: an argument")
				}
			}
		}
	}
}

func TestJuxtaposeLargerCodes(t *testing.T) {
	r := &random{state: 4}
	for _, g := range fields(t) {
		for _, n := range [][2]int{{1, 63}, {63, 1}, {32, 32}, {20, 44}, {3, 9}} {
			for _, k := range []int{0, 1, min(n[0], n[1]) / 2, min(n[0], n[1])} {
				a, b := r.exact(t, g, k, n[0]), r.exact(t, g, k, n[1])
				want := api.Code{F: g.Field(), N: a.N + b.N}
				for i, u := range a.Gen {
					want.Gen = append(want.Gen, slices.Concat(u, b.Gen[i]))
				}
				have, e := combine.Juxtapose(a, b)
				sameCode(t, have, e, want, "P14.2: Juxtapose", a, b)
			}
		}
	}
}

// TestProduct compares with all arrays.
func TestProduct(t *testing.T) {
	r := &random{state: 5}
	for _, g := range small(t) {
		most := longest(g, 729)
		for na := 1; na <= most; na++ {
			for nb := 1; na*nb <= most; nb++ {
				all := words(g, na*nb)
				for range 6 {
					a, b := r.code(t, g, r.below(na+1), na), r.code(t, g, r.below(nb+1), nb)
					keptA, keptB := copied(a), copied(b)
					product(t, g, a, b, all)
					sameCode(t, a, api.OK, keptA, "Rules: an argument")
					sameCode(t, b, api.OK, keptB, "Rules: an argument")
				}
			}
		}
	}
}

// product reports an error unless Product is right for a and b; all are all words of its length.
func product(t *testing.T, g *field.GF, a, b api.Code, all [][]int) {
	t.Helper()
	inA, inB := keys(spanned(g, a.N, a.Gen)), keys(spanned(g, b.N, b.Gen))
	var want [][]int
	for _, w := range all {
		if isArray(w, inA, inB, a.N, b.N) {
			want = append(want, w)
		}
	}
	have, e := combine.Product(a, b)
	isCodeOf(t, have, e, g, a.N*b.N, want, "P14.3: Product", a, b)
	if len(have.Gen) != len(a.Gen)*len(b.Gen) {
		t.Errorf("P14.3: Product(%v, %v): have dimension %d", a, b, len(have.Gen))
	}
	if d := distance(g, have); d != distance(g, a)*distance(g, b) {
		t.Errorf("P14.7: the distance of Product(%v, %v) is %d", a, b, d)
	}
}

// keys returns the keys of the words.
func keys(list [][]int) map[string]bool {
	set := map[string]bool{}
	for _, w := range list {
		set[key(w)] = true
	}
	return set
}

// isArray reports whether the columns of w, as an array with na rows and nb columns, are in inA, and its rows in inB.
func isArray(w []int, inA, inB map[string]bool, na, nb int) bool {
	for i := range na {
		if !inB[key(w[i*nb:(i+1)*nb])] {
			return false
		}
	}
	for j := range nb {
		var column []int
		for i := range na {
			column = append(column, w[i*nb+j])
		}
		if !inA[key(column)] {
			return false
		}
	}
	return true
}

func TestProductOfLargerCodes(t *testing.T) {
	r := &random{state: 6}
	for _, g := range fields(t) {
		for _, n := range [][2]int{{1, 64}, {64, 1}, {8, 8}, {3, 21}, {16, 4}, {2, 31}} {
			for range 4 {
				a, b := r.code(t, g, r.below(n[0]+1), n[0]), r.code(t, g, r.below(n[1]+1), n[1])
				var list [][]int
				for _, u := range a.Gen {
					for _, v := range b.Gen {
						w := make([]int, a.N*b.N)
						for i, x := range u {
							for j, y := range v {
								w[i*b.N+j] = g.Mul(x, y)
							}
						}
						list = append(list, w)
					}
				}
				have, e := combine.Product(a, b)
				spansCode(t, have, e, g, a.N*b.N, len(a.Gen)*len(b.Gen), list, "P14.3: Product", a, b)
			}
		}
	}
}

// TestInterleave compares with all lists of words.
func TestInterleave(t *testing.T) {
	r := &random{state: 7}
	for _, g := range small(t) {
		most := longest(g, 729)
		for n := 1; n <= most; n++ {
			for depth := 1; n*depth <= most; depth++ {
				for range 6 {
					c := r.code(t, g, r.below(n+1), n)
					kept := copied(c)
					interleave(t, g, c, depth)
					sameCode(t, c, api.OK, kept, "Rules: an argument")
				}
			}
		}
	}
}

// interleave reports an error unless Interleave is right for c and depth.
func interleave(t *testing.T, g *field.GF, c api.Code, depth int) {
	t.Helper()
	want := [][]int{make([]int, c.N*depth)}
	for k := range depth {
		var more [][]int
		for _, w := range want {
			for _, v := range spanned(g, c.N, c.Gen) {
				next := slices.Clone(w)
				for i, x := range v {
					next[i*depth+k] = x
				}
				more = append(more, next)
			}
		}
		want = more
	}
	have, e := combine.Interleave(c, depth)
	isCodeOf(t, have, e, g, c.N*depth, want, "P14.4: Interleave", c, depth)
	d := distance(g, c)
	if distance(g, have) != d {
		t.Errorf("P14.7: the distance of Interleave(%v, %d) is not %d", c, depth, d)
	}
	for _, w := range want {
		if n := span(w); n > 0 && n <= depth*(d-1) {
			t.Errorf("P14.7: Interleave(%v, %d) has the word %v", c, depth, w)
		}
	}
}

// span returns the number of the positions from the first to the last nonzero entry, or 0.
func span(w []int) int {
	first, last := 0, -1
	for i, x := range w {
		if x != 0 && last < 0 {
			first = i
		}
		if x != 0 {
			last = i
		}
	}
	return last - first + 1
}

func TestInterleaveLargerCodes(t *testing.T) {
	r := &random{state: 8}
	for _, g := range fields(t) {
		for _, n := range [][2]int{{1, 64}, {64, 1}, {8, 8}, {21, 3}, {16, 4}, {31, 2}, {32, 2}} {
			for range 4 {
				c, depth := r.code(t, g, r.below(n[0]+1), n[0]), n[1]
				var list [][]int
				for k := range depth {
					for _, v := range c.Gen {
						w := make([]int, c.N*depth)
						for i, x := range v {
							w[i*depth+k] = x
						}
						list = append(list, w)
					}
				}
				have, e := combine.Interleave(c, depth)
				spansCode(t, have, e, g, c.N*depth, len(c.Gen)*depth, list, "P14.4: Interleave", c, depth)
				other, e := combine.Interleave(dual(t, c), depth)
				sameCode(t, other, e, dual(t, have), "P14.7: the dual of an interleaved code", c, depth)
			}
		}
	}
}

// TestErrorsOfInterleave also has depths with which the product with the length overflows.
func TestErrorsOfInterleave(t *testing.T) {
	interleaved := func(c api.Code, depth int) map[string]result {
		return map[string]result{"Interleave": of(combine.Interleave(c, depth))}
	}
	for _, g := range fields(t) {
		for _, n := range []int{1, 2, 3, 32, 33, 64} {
			for _, c := range []api.Code{coded(g, n), units(g, n)} {
				for _, depth := range []int{0, -1, -64, math.MinInt, math.MinInt / 2} {
					failed(t, interleaved(c, depth), api.ErrRange, "P14.4", n, depth)
				}
				for _, depth := range []int{64/n + 1, 65, 1 << 32, 1 << 58, 1 << 59, 1 << 60, 1 << 61, 1 << 62, math.MaxInt, math.MaxInt/3*2 + 2} {
					failed(t, interleaved(c, depth), api.ErrLength, "P14.4", n, depth)
				}
			}
		}
	}
}

func TestErrorsOfPairs(t *testing.T) {
	two, three, nine, other := standard(t, 2), standard(t, 3), standard(t, 9), made(t, unusual[0])
	for _, x := range [][2]api.Code{
		{coded(two, 3, "101"), coded(three, 3, "101")},
		{coded(three, 3, "101"), coded(nine, 3, "101")},
		{coded(other, 3, "101"), coded(nine, 3, "101")},
		{units(other, 64), units(nine, 64)},
	} {
		a, b := x[0], x[1]
		failed(t, ofPair(a, b), api.ErrMatch, "P14.1 to P14.3", a, b)
		failed(t, ofPair(b, a), api.ErrMatch, "P14.1 to P14.3", b, a)
	}
	for _, g := range fields(t) {
		for _, n := range [][2]int{{1, 64}, {64, 1}, {33, 32}, {64, 64}, {33, 33}} {
			for _, codes := range [][2]api.Code{{coded(g, n[0]), coded(g, n[1])}, {units(g, n[0]), units(g, n[1])}} {
				a, b := codes[0], codes[1]
				failed(t, only(ofPair(a, b), "Sum"), api.ErrLength, "P14.1", n)
				plotkin, juxtapose := api.ErrLength, api.ErrLength
				if a.N != b.N {
					plotkin = api.ErrMatch
				}
				if len(a.Gen) != len(b.Gen) {
					juxtapose = api.ErrMatch
				}
				failed(t, only(ofPair(a, b), "Plotkin"), plotkin, "P14.1", n)
				failed(t, only(ofPair(a, b), "Juxtapose"), juxtapose, "P14.2", n)
			}
		}
		for _, n := range [][2]int{{2, 33}, {33, 2}, {5, 13}, {64, 2}, {64, 64}, {9, 8}} {
			failed(t, only(ofPair(coded(g, n[0]), units(g, n[1])), "Product"), api.ErrLength, "P14.3", n)
		}
		for _, codes := range [][2]api.Code{{coded(g, 3, "101"), coded(g, 2, "10", "01")}, {coded(g, 2), coded(g, 1, "1")}, {units(g, 3), units(g, 4)}} {
			failed(t, only(ofPair(codes[0], codes[1]), "Plotkin", "Juxtapose"), api.ErrMatch, "P14.1, P14.2", codes)
			failed(t, only(ofPair(codes[1], codes[0]), "Plotkin", "Juxtapose"), api.ErrMatch, "P14.1, P14.2", codes)
		}
	}
}

// TestErrorsOfCodes gives the functions data of no codes, and other arguments with errors of their own.
func TestErrorsOfCodes(t *testing.T) {
	for _, g := range fields(t) {
		good := coded(g, 64)
		for want, c := range badCodes(g) {
			failed(t, ofPair(c, good), want, "Functions", c)
			failed(t, ofPair(good, c), want, "Functions", c)
			for _, d := range badCodes(g) {
				failed(t, ofPair(c, d), want, "Functions", c, d)
				failed(t, map[string]result{
					"Concatenate":    of(combine.Concatenate(c, d, nil)),
					"ConstructionX":  of(combine.ConstructionX(c, d, good)),
					"ConstructionX2": of(combine.ConstructionX(good, c, d)),
				}, want, "Functions", c, d)
			}
			failed(t, map[string]result{
				"Interleave":     of(combine.Interleave(c, -1)),
				"Concatenate":    of(combine.Concatenate(c, good, nil)),
				"Concatenate2":   of(combine.Concatenate(good, c, nil)),
				"ConstructionX":  of(combine.ConstructionX(c, good, good)),
				"ConstructionX2": of(combine.ConstructionX(good, c, good)),
				"ConstructionX3": of(combine.ConstructionX(coded(g, 3), good, c)),
			}, want, "Functions", c)
		}
	}
	for _, f := range noFields {
		c := api.Code{F: f, N: 3}
		failed(t, ofPair(c, c), api.ErrField, "Functions", f)
	}
}

// TestEmptyMod takes nil and empty lists for the same.
func TestEmptyMod(t *testing.T) {
	a := api.Code{F: api.Field{P: 2, M: 1}, N: 3, Gen: digits("110")}
	b := api.Code{F: api.Field{P: 2, M: 1, Mod: []int{}}, N: 3, Gen: [][]int{}}
	have, e := combine.Sum(a, b)
	sameCode(t, have, e, coded(standard(t, 2), 6, "110000"), "P14.1: Sum")
	have, e = combine.Plotkin(a, b)
	sameCode(t, have, e, coded(standard(t, 2), 6, "110110"), "P14.1: Plotkin")
	have, e = combine.ConstructionX(a, b, api.Code{F: a.F, N: 1, Gen: digits("1")})
	sameCode(t, have, e, coded(standard(t, 2), 4, "1101"), "P14.6: ConstructionX")
	have, e = combine.Concatenate(b, a, []int{1})
	sameCode(t, have, e, coded(standard(t, 2), 9), "P14.5: Concatenate")
}

func TestExamples(t *testing.T) {
	g := standard(t, 2)
	a, even := coded(g, 3, "111"), coded(g, 3, "101", "011")
	have, e := combine.Sum(a, even)
	sameCode(t, have, e, coded(g, 6, "111000", "000101", "000011"), "Examples: Sum")
	have, e = combine.Plotkin(even, a)
	sameCode(t, have, e, coded(g, 6, "101010", "011011", "000111"), "Examples: Plotkin")
	if d := distance(g, have); d != 3 {
		t.Errorf("Examples: the distance of Plotkin is %d, want 3", d)
	}
	have, e = combine.Product(a, even)
	sameCode(t, have, e, coded(g, 9, "101101101", "011011011"), "Examples: Product")
	have, e = combine.Interleave(a, 2)
	sameCode(t, have, e, coded(g, 6, "101010", "010101"), "Examples: Interleave")
	have, e = combine.Concatenate(coded(standard(t, 4), 2, "12"), even, []int{1, 2})
	sameCode(t, have, e, coded(g, 6, "101011", "011110"), "Examples: Concatenate")
}

// disjoint reports an error unless a change of one of the lists changes none of the others.
func disjoint(t *testing.T, name string, lists ...[]int) {
	t.Helper()
	var kept [][]int
	for i, l := range lists {
		for j := range l {
			l[j] = i + j
		}
		kept = append(kept, slices.Clone(l))
	}
	if !sameLists(lists, kept) {
		t.Errorf("Rules: %s: two lists share memory", name)
	}
}

func TestResultsAreNewMemory(t *testing.T) {
	g := standard(t, 9)
	for name, build := range map[string]func(a, b api.Code, list []int) (api.Code, api.Errno){
		"Sum":           func(a, b api.Code, _ []int) (api.Code, api.Errno) { return combine.Sum(a, b) },
		"Plotkin":       func(a, b api.Code, _ []int) (api.Code, api.Errno) { return combine.Plotkin(a, b) },
		"Juxtapose":     func(a, b api.Code, _ []int) (api.Code, api.Errno) { return combine.Juxtapose(a, b) },
		"Product":       func(a, b api.Code, _ []int) (api.Code, api.Errno) { return combine.Product(a, b) },
		"Interleave":    func(a, _ api.Code, _ []int) (api.Code, api.Errno) { return combine.Interleave(a, 1) },
		"Concatenate":   func(a, b api.Code, l []int) (api.Code, api.Errno) { return combine.Concatenate(a, coded(g, 1, "1"), l) },
		"ConstructionX": func(a, b api.Code, _ []int) (api.Code, api.Errno) { return combine.ConstructionX(a, coded(g, 4), b) },
	} {
		a, b, list := coded(g, 4, "1002", "0112"), coded(g, 4, "1012", "0103"), []int{2}
		have, e := build(a, b, list)
		if e != api.OK || len(have.Gen) == 0 {
			t.Fatal(name, have, e)
		}
		disjoint(t, name, slices.Concat(a.Gen, b.Gen, have.Gen, [][]int{a.F.Mod, b.F.Mod, have.F.Mod, list})...)
	}
}
