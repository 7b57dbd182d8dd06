package code_test

import (
	"slices"
	"testing"

	"codewright/api"
	"codewright/code"
	"codewright/field"
)

// TestWordsOfCodes compares with all messages, and with all words.
func TestWordsOfCodes(t *testing.T) {
	r := &random{state: 1}
	for _, g := range small(t) {
		for n := 1; n <= longest(g, 729); n++ {
			for rows := range n + 1 {
				c := r.code(t, g, rows, n)
				kept := copied(c)
				messages(t, g, c)
				syndromes(t, g, c)
				sameCode(t, c, api.OK, kept, "Rules: an argument")
			}
		}
	}
}

// messages reports an error unless Encode, Message and Has are right for c.
func messages(t *testing.T, g *field.GF, c api.Code) {
	t.Helper()
	of := map[string][]int{}
	for _, msg := range words(g, len(c.Gen)) {
		want := combined(g, msg, c.N, c.Gen)
		w, e := code.Encode(c, msg)
		sameList(t, w, e, want, "P12.3: Encode", c, msg)
		of[key(want)] = msg
	}
	for _, w := range words(g, c.N) {
		want, is := of[key(w)]
		in, e := code.Has(c, w)
		sameBool(t, in, e, is, "P12.3: Has", c, w)
		if !is {
			failed(t, map[string]result{"Message": ofList(code.Message(c, w))}, api.ErrNone, "P12.3", c, w)
			continue
		}
		msg, e := code.Message(c, w)
		sameList(t, msg, e, want, "P12.3: Message", c, w)
	}
}

// syndromes reports an error unless Syndrome is right for c.
func syndromes(t *testing.T, g *field.GF, c api.Code) {
	t.Helper()
	parity, _ := code.Dual(c)
	first := map[string][]int{}
	for _, w := range words(g, c.N) {
		var want []int
		for _, row := range parity.Gen {
			want = append(want, dot(g, w, row))
		}
		s, e := code.Syndrome(c, w)
		sameList(t, s, e, want, "P12.3: Syndrome", c, w)
		in, e := code.Has(c, w)
		sameBool(t, in, e, !slices.ContainsFunc(s, func(x int) bool { return x != 0 }), "P12.6: Has and Syndrome", c, w)
		if v := first[key(s)]; v != nil {
			in, e := code.Has(c, difference(g, v, w))
			sameBool(t, in, e, true, "P12.6: words with one syndrome", c, v, w)
		} else {
			first[key(s)] = w
		}
	}
	count := 1
	for range c.N - len(c.Gen) {
		count *= g.Order()
	}
	if len(first) != count {
		t.Errorf("P12.6: %v: %d syndromes, want %d", c, len(first), count)
	}
}

// difference returns a minus b.
func difference(g *field.GF, a, b []int) []int {
	var list []int
	for i, x := range a {
		list = append(list, g.Sub(x, b[i]))
	}
	return list
}

func TestWordsOfLargerCodes(t *testing.T) {
	r := &random{state: 2}
	for _, g := range fields(t) {
		for _, n := range []int{1, 10, 64} {
			for _, rows := range []int{0, 1, n / 2, n} {
				c := r.code(t, g, rows, n)
				msg := r.list(g, len(c.Gen), 1)
				keptMsg := slices.Clone(msg)
				want := combined(g, msg, n, c.Gen)
				w, e := code.Encode(c, msg)
				sameList(t, w, e, want, "P12.3: Encode", c, msg)
				keptWord := slices.Clone(w)
				in, e := code.Has(c, w)
				sameBool(t, in, e, true, "P12.3: Has", c, w)
				back, e := code.Message(c, w)
				sameList(t, back, e, msg, "P12.3: Message", c, w)
				s, e := code.Syndrome(c, w)
				sameList(t, s, e, make([]int, n-len(c.Gen)), "P12.3: Syndrome", c, w)
				sameList(t, msg, api.OK, keptMsg, "Rules: an argument")
				sameList(t, w, api.OK, keptWord, "Rules: an argument")
				others(t, g, c, w)
			}
		}
	}
}

// others reports an error unless each change of the codeword w at a position that is not a pivot is found not to be a codeword.
func others(t *testing.T, g *field.GF, c api.Code, w []int) {
	t.Helper()
	pivots, _ := code.Pivots(c)
	parity, _ := code.Dual(c)
	for i := range w {
		if slices.Contains(pivots, i) {
			continue
		}
		v := slices.Clone(w)
		v[i] = g.Add(v[i], 1)
		in, e := code.Has(c, v)
		sameBool(t, in, e, false, "P12.3: Has", c, v)
		failed(t, map[string]result{"Message": ofList(code.Message(c, v))}, api.ErrNone, "P12.3", c, v)
		var column []int
		for _, row := range parity.Gen {
			column = append(column, row[i])
		}
		s, e := code.Syndrome(c, v)
		sameList(t, s, e, column, "P12.3: Syndrome", c, v)
	}
}

func TestErrorsOfWords(t *testing.T) {
	for _, g := range fields(t) {
		for _, c := range []api.Code{coded(g, 3), coded(g, 3, "011"), coded(g, 3, "100", "010", "001")} {
			for _, w := range [][]int{nil, {}, {1, 1}, {0, 0, 0, 0}, {-1}, {0, 0, 0, g.Order()}, make([]int, 300)} {
				failed(t, ofWord(c, w), api.ErrLength, "P12.3", c, w)
			}
			for _, x := range strangers(g) {
				for _, w := range [][]int{{x, 0, 0}, {0, x, 1}, {1, 1, x}, {x, x, x}} {
					failed(t, ofWord(c, w), api.ErrElement, "P12.3", c, w)
				}
			}
		}
	}
}

func TestErrorsOfEncode(t *testing.T) {
	of := func(c api.Code, msg []int) map[string]result {
		return map[string]result{"Encode": ofList(code.Encode(c, msg))}
	}
	for _, g := range fields(t) {
		for _, c := range []api.Code{coded(g, 3), coded(g, 3, "011"), coded(g, 3, "100", "001"), coded(g, 3, "100", "010", "001")} {
			for n := range 5 {
				if n != len(c.Gen) {
					failed(t, of(c, make([]int, n)), api.ErrLength, "P12.3", c, n)
					failed(t, of(c, slices.Repeat([]int{-1}, n)), api.ErrLength, "P12.3", c, n)
				}
			}
			failed(t, of(c, make([]int, 300)), api.ErrLength, "P12.3", c)
			for i := range c.Gen {
				for _, x := range strangers(g) {
					msg := make([]int, len(c.Gen))
					msg[i] = x
					failed(t, of(c, msg), api.ErrElement, "P12.3", c, msg)
				}
			}
		}
	}
}
