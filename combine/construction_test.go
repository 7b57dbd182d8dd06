package combine_test

import (
	"slices"
	"testing"

	"codewright/api"
	"codewright/code"
	"codewright/combine"
	"codewright/field"
)

// TestConstructionX compares with all words of the code.
func TestConstructionX(t *testing.T) {
	r := &random{state: 1}
	for _, g := range small(t) {
		for n := 1; n <= longest(g, 81); n++ {
			for range 25 {
				a := r.code(t, g, r.below(n+1), n)
				b := r.less(t, g, r.below(len(a.Gen)+1), a)
				more := len(a.Gen) - len(b.Gen)
				for length := max(1, more); length <= more+2; length++ {
					tail := r.exact(t, g, more, length)
					kept := []api.Code{copied(a), copied(b), copied(tail)}
					constructionX(t, g, a, b, tail)
					for i, c := range []api.Code{a, b, tail} {
						sameCode(t, c, api.OK, kept[i], "Rules: an argument")
					}
				}
			}
		}
	}
}

// constructionX reports an error unless ConstructionX is right.
func constructionX(t *testing.T, g *field.GF, a, b, tail api.Code) {
	t.Helper()
	all := spanned(g, a.N, a.Gen)
	var want [][]int
	for _, x := range all {
		end := combined(g, messageOf(t, g, a, b, all, x), tail)
		if in, _ := code.Has(b, x); in != (weight(end) == 0) {
			t.Errorf("P14.6: %v, %v: the word %v has the tail %v", a, b, x, end)
		}
		want = append(want, slices.Concat(x, end))
	}
	have, e := combine.ConstructionX(a, b, tail)
	isCodeOf(t, have, e, g, a.N+tail.N, want, "P14.6: ConstructionX", a, b, tail)
	for _, w := range want {
		least := distance(g, b)
		if weight(w[a.N:]) > 0 {
			least = distance(g, a) + distance(g, tail)
		}
		if n := weight(w); n > 0 && n < least {
			t.Errorf("P14.7: ConstructionX(%v, %v, %v) has the word %v", a, b, tail, w)
		}
	}
}

// messageOf returns the message that the chapter defines for the word x of a; all are the words of a.
func messageOf(t *testing.T, g *field.GF, a, b api.Code, all [][]int, x []int) []int {
	t.Helper()
	first, _ := code.Pivots(a)
	second, _ := code.Pivots(b)
	count := 0
	var msg []int
	for _, y := range all {
		same, _ := code.Has(b, plus(g, x, g.Scale(g.Neg(1), y)))
		if !same || slices.ContainsFunc(second, func(p int) bool { return y[p] != 0 }) {
			continue
		}
		count++
		msg = nil
		for _, p := range first {
			if !slices.Contains(second, p) {
				msg = append(msg, y[p])
			}
		}
	}
	if count != 1 {
		t.Fatalf("the test is wrong: %v, %v: %d words for %v", a, b, count, x)
	}
	return msg
}

func TestConstructionXOfLargerCodes(t *testing.T) {
	r := &random{state: 2}
	for _, g := range fields(t) {
		for _, n := range []int{1, 5, 32, 50} {
			for range 6 {
				a := r.code(t, g, r.below(n+1), n)
				b := r.less(t, g, r.below(len(a.Gen)+1), a)
				more := len(a.Gen) - len(b.Gen)
				if more > 64-n {
					b, more = a, 0
				}
				tail := r.exact(t, g, more, 64-n)
				have, e := combine.ConstructionX(a, b, tail)
				spansCode(t, have, e, g, 64, len(a.Gen), largerWords(g, r, a, b, tail), "P14.6: ConstructionX", a, b, tail)
			}
		}
	}
}

// largerWords returns words of the code that ConstructionX makes: one for each row of a, and as many for words of b and for others.
func largerWords(g *field.GF, r *random, a, b, tail api.Code) [][]int {
	first, _ := code.Pivots(a)
	second, _ := code.Pivots(b)
	words := slices.Concat(a.Gen, b.Gen)
	for range a.Gen {
		words = append(words, combined(g, r.list(g, len(a.Gen), 1), a))
	}
	var list [][]int
	for _, x := range words {
		y := slices.Clone(x)
		for i, p := range second {
			y = plus(g, y, g.Scale(g.Neg(y[p]), b.Gen[i]))
		}
		var msg []int
		for _, p := range first {
			if !slices.Contains(second, p) {
				msg = append(msg, y[p])
			}
		}
		list = append(list, slices.Concat(x, combined(g, msg, tail)))
	}
	return list
}

func TestErrorsOfConstructionX(t *testing.T) {
	two, nine, other := standard(t, 2), standard(t, 9), made(t, unusual[0])
	failures := func(a, b, tail api.Code, want api.Errno) {
		t.Helper()
		failed(t, map[string]result{"ConstructionX": of(combine.ConstructionX(a, b, tail))}, want, "P14.6", a, b, tail)
	}
	failures(units(nine, 3), coded(other, 3, "101"), units(nine, 2), api.ErrMatch)
	failures(units(nine, 3), coded(nine, 3, "101"), units(other, 2), api.ErrMatch)
	failures(units(other, 3), coded(nine, 3, "101"), units(nine, 2), api.ErrMatch)
	failures(units(nine, 64), coded(two, 64), units(nine, 64), api.ErrMatch)
	failures(units(two, 64), coded(two, 64), units(nine, 64), api.ErrMatch)
	for _, g := range fields(t) {
		failures(units(g, 3), coded(g, 4, "1010"), units(g, 2), api.ErrMatch)
		failures(units(g, 3), coded(g, 2, "11"), units(g, 2), api.ErrMatch)
		failures(coded(g, 3, "101", "010"), coded(g, 3, "100"), units(g, 1), api.ErrMatch)
		failures(coded(g, 3, "101"), units(g, 3), coded(g, 1), api.ErrMatch)
		for k := range 5 {
			if k != 2 {
				failures(units(g, 3), coded(g, 3, "111"), generated(t, g, 4, units(g, 4).Gen[:k]), api.ErrMatch)
			}
		}
		failures(units(g, 62), units(g, 62), coded(g, 3), api.ErrLength)
		failures(coded(g, 64), coded(g, 64), coded(g, 1), api.ErrLength)
		failures(units(g, 64), coded(g, 64), units(g, 64), api.ErrLength)
		failures(units(g, 64), coded(g, 64), coded(g, 64), api.ErrMatch)
		have, e := combine.ConstructionX(units(g, 62), units(g, 62), coded(g, 2))
		sameCode(t, have, e, generated(t, g, 64, units(g, 64).Gen[:62]), "P14.6: ConstructionX")
	}
}
