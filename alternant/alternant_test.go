package alternant_test

import (
	"math"
	"slices"
	"testing"

	"codewright/alternant"
	"codewright/api"
	"codewright/code"
	"codewright/field"
	"codewright/modify"
)

// TestCode goes through all words.
func TestCode(t *testing.T) {
	r := &random{state: 1}
	for _, x := range pairs(t) {
		for n := 1; n <= min(9, x.big.Order()) && few(x.small.Order(), n, 1<<9); n++ {
			for k := 0; k <= n; k++ {
				s := r.described(x.big, n, k)
				var rows [][]int
				for _, w := range words(x.small, n) {
					if x.inside(s, w) {
						rows = append(rows, w)
					}
				}
				have, e := alternant.Code(x.small.Field(), s)
				sameCode(t, have, e, spanned(t, x.small, n, rows), "P19.1: Code", x.small.Field(), s)
				bounded(t, x, s, have)
			}
		}
	}
}

// spanned returns the code that any number of rows generate.
func spanned(t *testing.T, g *field.GF, n int, rows [][]int) api.Code {
	t.Helper()
	c := generated(t, g, n, nil)
	for part := range slices.Chunk(rows, api.MaxRows-n) {
		c = generated(t, g, n, slices.Concat(part, c.Gen))
	}
	return c
}

// bounded reports an error unless the alternant code c of s has the dimension and the weights that the chapter's bounds demand.
func bounded(t *testing.T, x pair, s api.GRS, c api.Code) {
	t.Helper()
	small, n := x.small.Field(), len(s.Points)
	if m := s.F.M / small.M; len(c.Gen) < n-m*(n-s.K) {
		t.Errorf("Alternant codes: the code of %v over %v has dimension %d", s, small, len(c.Gen))
	}
	d, e := alternant.Designed(small, s)
	sameInt(t, d, e, n-s.K+1, "P19.1: Designed", small, s)
	if few(small.P, small.M*len(c.Gen), 1<<9) && leastWeight(c) < d {
		t.Errorf("Alternant codes: the code of %v over %v has a word of weight %d", s, small, leastWeight(c))
	}
}

// TestGreatCode compares with the subfield subcode of the code of s.
func TestGreatCode(t *testing.T) {
	r := &random{state: 2}
	for _, x := range pairs(t) {
		most := min(x.big.Order(), api.MaxN)
		for _, n := range []int{1 + r.below(most), 1 + r.below(most), most} {
			for _, k := range []int{0, 1, n / 2, n - 1, n} {
				s := r.described(x.big, n, k)
				before := cloned(s)
				have, e := alternant.Code(x.small.Field(), s)
				want, _ := modify.Subfield(codeOf(t, s), x.small.Field())
				sameCode(t, have, e, want, "P19.1: Code", x.small.Field(), s)
				bounded(t, x, s, have)
				if !same(s, before) {
					t.Errorf("Rules: Code changes %v", before)
				}
				for range 4 {
					w := r.word(x.small, have)
					if !x.inside(s, w) {
						t.Errorf("P19.1: the image of the word %v of the code of %v is no codeword", w, s)
					}
				}
			}
		}
	}
}

// word returns a random word of c.
func (r *random) word(g *field.GF, c api.Code) []int {
	msg := make([]int, len(c.Gen))
	for i := range msg {
		msg[i] = r.below(g.Order())
	}
	w, _ := code.Encode(c, msg)
	return w
}

// TestSameField has codes over the field of the description itself, also with another polynomial.
func TestSameField(t *testing.T) {
	r := &random{state: 3}
	for _, g := range fields(t) {
		s := r.described(g, min(g.Order(), 20), r.below(min(g.Order(), 20)))
		have, e := alternant.Code(g.Field(), s)
		sameCode(t, have, e, codeOf(t, s), "P19.1: Code over the same field", s)
	}
	big, small := standard(t, 8), made(t, unusual[1])
	s := r.described(big, 8, 5)
	c, e := alternant.Code(small.Field(), s)
	if e != api.OK || len(c.Gen) != 5 || !field.Same(c.F, small.Field()) {
		t.Errorf("P19.1: Code(%v, %v): have %v and error %d", small.Field(), s, c, e)
	}
}

// ofPair returns what the functions with these arguments return.
func ofPair(small api.Field, s api.GRS) map[string]result {
	return map[string]result{
		"Code":     ofCode(alternant.Code(small, s)),
		"Designed": ofInt(alternant.Designed(small, s)),
	}
}

func TestErrorsOfCode(t *testing.T) {
	two, three, eight := standard(t, 2).Field(), standard(t, 3).Field(), standard(t, 8).Field()
	good := api.GRS{F: eight, K: 1, Points: []int{1, 2}, Mults: []int{1, 1}}
	broken := map[api.Errno]api.GRS{
		api.ErrField:   {F: noFields[0], K: 99, Points: []int{9}},
		api.ErrLength:  {F: eight, K: 99, Mults: []int{9}},
		api.ErrMatch:   {F: eight, K: 99, Points: []int{9, 9}, Mults: []int{0}},
		api.ErrElement: {F: eight, K: 99, Points: []int{1, 1, 8}, Mults: []int{0, 0, 0}},
		api.ErrTwice:   {F: eight, K: 99, Points: []int{1, 1}, Mults: []int{0, 0}},
		api.ErrZero:    {F: eight, K: 99, Points: []int{1, 2}, Mults: []int{1, 0}},
		api.ErrRange:   {F: eight, K: math.MaxInt, Points: []int{1, 2}, Mults: []int{1, 1}},
	}
	for want, s := range broken {
		for _, no := range noFields {
			failed(t, ofPair(no, s), api.ErrField, "P19.1", no, s)
		}
		for _, small := range []api.Field{two, three, eight} {
			failed(t, ofPair(small, s), want, "P19.1", small, s)
		}
	}
	for _, no := range noFields {
		failed(t, ofPair(no, good), api.ErrField, "P19.1", no)
		failed(t, ofPair(two, api.GRS{F: no, K: 1, Points: []int{1, 2}, Mults: []int{1, 1}}), api.ErrField, "P19.1", no)
	}
	list := fields(t)
	for _, small := range list {
		for _, big := range list {
			f, h := small.Field(), big.Field()
			if f.P != h.P || h.M%f.M != 0 {
				s := api.GRS{F: h, K: 1, Points: []int{0, 1}, Mults: []int{1, 1}}
				failed(t, ofPair(f, s), api.ErrMatch, "P19.1", f, h)
			}
		}
	}
}
