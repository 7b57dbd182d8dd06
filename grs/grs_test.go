package grs_test

import (
	"math"
	"slices"
	"testing"

	"codewright/api"
	"codewright/field"
	"codewright/grs"
	"codewright/matrix"
)

// ofOne returns what the functions with an argument s return, beside Check, for arguments that are good for a description that has two points.
func ofOne(s api.GRS) map[string]result {
	return map[string]result{
		"Generator": ofMatrix(grs.Generator(s)),
		"Code":      ofCode(grs.Code(s)),
		"Encode":    ofList(grs.Encode(s, []int{1})),
		"Message":   ofList(grs.Message(s, []int{1, 1})),
		"Dual":      ofGRS(grs.Dual(s)),
		"Puncture":  ofGRS(grs.Puncture(s, 0)),
		"Weights":   ofNats(grs.Weights(s)),
		"Affine":    ofGRS(grs.Affine(s, 1, 1)),
		// These arguments are always wrong.
		"Encode, bad":   ofList(grs.Encode(s, make([]int, 99))),
		"Message, bad":  ofList(grs.Message(s, make([]int, 99))),
		"Puncture, bad": ofGRS(grs.Puncture(s, -1)),
		"Affine, bad":   ofGRS(grs.Affine(s, -1, 0)),
		"Affine, zero":  ofGRS(grs.Affine(s, 0, 0)),
	}
}

// broken returns descriptions with the errors that Check finds; each of them has the later errors also, where this is possible.
func broken(g *field.GF) map[api.Errno][]api.GRS {
	f, q := g.Field(), g.Order()
	return map[api.Errno][]api.GRS{
		api.ErrLength: {
			{F: f}, {F: f, K: -1, Mults: []int{0}}, {F: f, K: 99, Points: make([]int, 65), Mults: make([]int, 65)},
			{F: f, K: 99, Points: make([]int, 300), Mults: []int{q}},
		},
		api.ErrMatch: {
			{F: f, K: 99, Points: []int{q, q}, Mults: []int{0}}, {F: f, K: 99, Points: []int{0, 0}},
			{F: f, K: -1, Points: []int{0, 1}, Mults: []int{q, 0, 1}},
		},
		api.ErrElement: {
			{F: f, K: 99, Points: []int{0, 0, q}, Mults: []int{0, 0, 0}}, {F: f, K: -1, Points: []int{1, 1}, Mults: []int{0, q}},
			{F: f, K: 1, Points: []int{0, -1}, Mults: []int{1, 1}}, {F: f, K: 1, Points: []int{0, 1}, Mults: []int{math.MinInt, 1}},
			{F: f, K: 1, Points: []int{math.MaxInt, math.MaxInt}, Mults: []int{1, 1}},
		},
		api.ErrTwice: {
			{F: f, K: 99, Points: []int{0, 0}, Mults: []int{0, 1}}, {F: f, K: -1, Points: []int{1, 0, 1}, Mults: []int{1, 0, 1}},
			{F: f, K: 1, Points: []int{1, 1}, Mults: []int{1, 1}}, {F: f, K: 1, Points: make([]int, 64), Mults: slices.Repeat([]int{1}, 64)},
		},
		api.ErrZero: {
			{F: f, K: 99, Points: []int{0, 1}, Mults: []int{0, 1}}, {F: f, K: -1, Points: []int{0, 1}, Mults: []int{1, 0}},
			{F: f, K: 1, Points: []int{1}, Mults: []int{0}},
		},
		api.ErrRange: {
			{F: f, K: 3, Points: []int{1, 0}, Mults: []int{1, 1}}, {F: f, K: -1, Points: []int{1, 0}, Mults: []int{1, 1}},
			{F: f, K: math.MaxInt, Points: []int{1}, Mults: []int{1}}, {F: f, K: math.MinInt, Points: []int{1}, Mults: []int{1}},
		},
	}
}

func TestErrorsOfCheck(t *testing.T) {
	for _, g := range fields(t) {
		for want, list := range broken(g) {
			for _, s := range list {
				if e := grs.Check(s); e != want {
					t.Errorf("P18.1: Check(%v): error %d, want %d", s, e, want)
				}
				failed(t, ofOne(s), want, "Functions", s)
				for _, no := range noFields {
					s.F = no
					if e := grs.Check(s); e != api.ErrField {
						t.Errorf("P18.1: Check(%v): error %d, want ErrField", s, e)
					}
				}
			}
		}
	}
	for _, no := range noFields {
		failed(t, ofOne(api.GRS{F: no, K: 1, Points: []int{0, 1}, Mults: []int{1, 1}}), api.ErrField, "Functions", no)
	}
}

func TestCheck(t *testing.T) {
	great(t, func(g *field.GF, r *random, s api.GRS) {
		before := cloned(s)
		if e := grs.Check(s); e != api.OK || !same(s, before) {
			t.Errorf("P18.1: Check(%v): error %d, the description is now %v", before, e, s)
		}
	})
	for _, g := range fields(t) {
		for k := range 2 {
			if e := grs.Check(api.GRS{F: g.Field(), K: k, Points: []int{g.Order() - 1}, Mults: []int{g.Order() - 1}}); e != api.OK {
				t.Errorf("P18.1: Check of one point over %v: error %d", g.Field(), e)
			}
		}
	}
}

func TestStandard(t *testing.T) {
	of := func(f api.Field, n, k int) map[string]result {
		return map[string]result{"Standard": ofGRS(grs.Standard(f, n, k))}
	}
	for _, g := range fields(t) {
		f, most := g.Field(), min(api.MaxN, g.Order())
		for n := 1; n <= most; n++ {
			want := api.GRS{F: f}
			for i := range n {
				want.Points, want.Mults = append(want.Points, i), append(want.Mults, 1)
			}
			for _, k := range []int{0, 1, n / 2, n} {
				want.K = k
				have, e := grs.Standard(f, n, k)
				sameGRS(t, have, e, want, "P18.1: Standard", f, n, k)
			}
			for _, k := range []int{math.MinInt, -1, n + 1, math.MaxInt} {
				failed(t, of(f, n, k), api.ErrRange, "P18.1", f, n, k)
			}
		}
		for _, n := range []int{math.MinInt, -1, 0, most + 1, 65, 256, math.MaxInt} {
			for _, k := range []int{-1, 0, 1, most + 2} {
				failed(t, of(f, n, k), api.ErrLength, "P18.1", f, n, k)
			}
		}
	}
	for _, no := range noFields {
		failed(t, of(no, 2, 1), api.ErrField, "P18.1", no)
		failed(t, of(no, 0, -1), api.ErrField, "P18.1", no)
	}
}

func TestGenerator(t *testing.T) {
	great(t, func(g *field.GF, _ *random, s api.GRS) {
		before := cloned(s)
		want := api.Matrix{Cols: len(s.Points)}
		for i := range s.K {
			want.Rows = append(want.Rows, codeword(g, s, append(make([]int, i), 1)))
		}
		have, e := grs.Generator(s)
		if e != api.OK || have.Cols != want.Cols || !sameLists(have.Rows, want.Rows) {
			t.Errorf("P18.2: Generator(%v): have %v and error %d, want %v", s, have, e, want)
		}
		c, e := grs.Code(s)
		sameCode(t, c, e, generated(t, g, want.Cols, want.Rows), "P18.2: Code", s)
		if len(c.Gen) != s.K {
			t.Errorf("Descriptions: the code of %v has dimension %d", s, len(c.Gen))
		}
		for _, row := range have.Rows {
			row[0] = -1
			_ = append(row, -1)
		}
		if again, _ := grs.Generator(s); !same(s, before) || !sameLists(again.Rows, want.Rows) {
			t.Errorf("Rules: the matrix of %v shares memory", before)
		}
	})
}

// TestCodewords goes through all messages and all words.
func TestCodewords(t *testing.T) {
	small(t, 1<<11, func(g *field.GF, s api.GRS) {
		n, seen := len(s.Points), map[string]bool{}
		for _, msg := range words(g, s.K) {
			word := codeword(g, s, msg)
			seen[key(word)] = true
			have, e := grs.Encode(s, msg)
			sameList(t, have, e, word, "P18.2: Encode", s, msg)
			back, e := grs.Message(s, word)
			sameList(t, back, e, msg, "P18.2: Message", s, word)
			if least := n - s.K + 1; weight(word) > 0 && weight(word) < least {
				t.Errorf("Descriptions: the codeword %v of %v has a weight below %d", word, s, least)
			}
		}
		if !few(g.Order(), n, 1<<11) {
			return
		}
		for _, word := range words(g, n) {
			if !seen[key(word)] {
				failed(t, map[string]result{"Message": ofList(grs.Message(s, word))}, api.ErrNone, "P18.2", s, word)
			}
		}
	})
}

func TestGreatCodewords(t *testing.T) {
	great(t, func(g *field.GF, r *random, s api.GRS) {
		n := len(s.Points)
		for range 4 {
			msg := r.elements(g, s.K)
			if r.below(2) == 0 {
				clear(msg[s.K/2:])
			}
			word := codeword(g, s, msg)
			have, e := grs.Encode(s, msg)
			sameList(t, have, e, word, "P18.2: Encode", s, msg)
			back, e := grs.Message(s, word)
			sameList(t, back, e, msg, "P18.2: Message", s, word)
			if s.K == n {
				continue
			}
			// A nonzero word of at most n - K positions is no codeword.
			for _, i := range r.positions(n, 1+r.below(n-s.K)) {
				word[i] = g.Add(word[i], 1+r.below(g.Order()-1))
			}
			failed(t, map[string]result{"Message": ofList(grs.Message(s, word))}, api.ErrNone, "P18.2", s, word)
		}
		determined(t, g, r, s)
	})
}

// determined reports an error if not each choice of K positions determines one codeword.
func determined(t *testing.T, g *field.GF, r *random, s api.GRS) {
	t.Helper()
	m, e := grs.Generator(s)
	if e != api.OK {
		t.Fatal(e)
	}
	for range 4 {
		at := r.positions(len(s.Points), s.K)
		slices.Sort(at)
		square, e := matrix.Columns(g.Field(), m, at)
		if e != api.OK {
			t.Fatal(e)
		}
		if rank, e := matrix.Rank(g.Field(), square); rank != s.K || e != api.OK {
			t.Errorf("P18.2: the entries of the codewords of %v at %v have dimension %d", s, at, rank)
		}
	}
}

func TestErrorsOfCodewords(t *testing.T) {
	great(t, func(g *field.GF, r *random, s api.GRS) {
		n := len(s.Points)
		encode := func(msg []int) map[string]result {
			return map[string]result{"Encode": ofList(grs.Encode(s, msg))}
		}
		message := func(word []int) map[string]result {
			return map[string]result{"Message": ofList(grs.Message(s, word))}
		}
		for _, strange := range []int{math.MinInt, -1, g.Order(), math.MaxInt} {
			failed(t, encode(slices.Repeat([]int{strange}, s.K+1)), api.ErrShape, "P18.2", s)
			failed(t, message(slices.Repeat([]int{strange}, n+1)), api.ErrLength, "P18.2", s)
			failed(t, message(slices.Repeat([]int{strange}, n-1)), api.ErrLength, "P18.2", s)
			word := r.elements(g, n)
			word[r.below(n)] = strange
			failed(t, message(word), api.ErrElement, "P18.2", s, word)
			if s.K > 0 {
				failed(t, encode(slices.Repeat([]int{strange}, s.K-1)), api.ErrShape, "P18.2", s)
				msg := r.elements(g, s.K)
				msg[r.below(s.K)] = strange
				failed(t, encode(msg), api.ErrElement, "P18.2", s, msg)
			}
		}
		failed(t, message(nil), api.ErrLength, "P18.2", s)
		failed(t, message(make([]int, 300)), api.ErrLength, "P18.2", s)
		failed(t, encode(make([]int, 300)), api.ErrShape, "P18.2", s)
	})
}

func TestExamples(t *testing.T) {
	s, e := grs.Standard(standard(t, 4).Field(), 3, 2)
	if e != api.OK {
		t.Fatal(e)
	}
	m, e := grs.Generator(s)
	if e != api.OK || m.Cols != 3 || !sameLists(m.Rows, [][]int{{1, 1, 1}, {0, 1, 2}}) {
		t.Errorf("Examples: Generator: %v and error %d", m, e)
	}
	w, e := grs.Encode(s, []int{1, 1})
	sameList(t, w, e, []int{1, 0, 3}, "Examples: Encode")
	d, e := grs.Dual(s)
	sameGRS(t, d, e, api.GRS{F: s.F, K: 1, Points: []int{0, 1, 2}, Mults: []int{3, 2, 1}}, "Examples: Dual")
	l, e := grs.Weights(s)
	if e != api.OK || !slices.EqualFunc(l, []api.Nat{{1}, nil, {9}, {6}}, slices.Equal) {
		t.Errorf("Examples: Weights: %v and error %d", l, e)
	}
}
