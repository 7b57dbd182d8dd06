package grs_test

import (
	"math/big"
	"slices"
	"testing"

	"codewright/api"
	"codewright/field"
	"codewright/grs"
	"codewright/nat"
)

// TestWeights counts the codewords of small codes.
func TestWeights(t *testing.T) {
	small(t, 1<<12, func(g *field.GF, s api.GRS) {
		want := make([]api.Nat, len(s.Points)+1)
		for _, msg := range words(g, s.K) {
			w := weight(codeword(g, s, msg))
			want[w] = nat.Add(want[w], nat.Of(1))
		}
		have, e := grs.Weights(s)
		if e != api.OK || !slices.EqualFunc(have, want, slices.Equal) {
			t.Errorf("P18.5: Weights(%v): have %v and error %d, want %v", s, have, e, want)
		}
		if s.K > 0 && len(want[len(s.Points)-s.K+1]) == 0 {
			t.Errorf("Descriptions: no codeword of %v has the weight n - K + 1", s)
		}
	})
}

// formula returns the number of codewords of weight w, for w from d to n, by the formula of the chapter.
func formula(q, n, d, w int) *big.Int {
	sum := new(big.Int)
	for j := range w - d + 1 {
		term := new(big.Int).Exp(big.NewInt(int64(q)), big.NewInt(int64(w-d+1-j)), nil)
		term.Sub(term, big.NewInt(1))
		term.Mul(term, new(big.Int).Binomial(int64(w), int64(j)))
		if j%2 == 1 {
			term.Neg(term)
		}
		sum.Add(sum, term)
	}
	return sum.Mul(sum, new(big.Int).Binomial(int64(n), int64(w)))
}

func TestWeightsOfGreatCodes(t *testing.T) {
	great(t, func(g *field.GF, _ *random, s api.GRS) {
		n, before := len(s.Points), cloned(s)
		have, e := grs.Weights(s)
		if e != api.OK || len(have) != n+1 || !same(s, before) {
			t.Fatalf("P18.5: Weights(%v): %d numbers and error %d", before, len(have), e)
		}
		for w := range have {
			want := new(big.Int)
			if w == 0 {
				want.SetInt64(1)
			}
			if d := n - s.K + 1; w >= d {
				want = formula(g.Order(), n, d, w)
			}
			if nat.Text(have[w]) != want.String() || len(have[w]) != len(nat.Trim(have[w])) {
				t.Errorf("P18.5: Weights(%v): %v at %d, want %v", s, have[w], w, want)
			}
		}
		all, e := nat.Pow(nat.Of(uint64(g.Order())), s.K)
		if e != api.OK || nat.Cmp(nat.Add(have...), all) != 0 {
			t.Errorf("P18.5: the sum of the weights of %v is %v", s, nat.Add(have...))
		}
	})
}
