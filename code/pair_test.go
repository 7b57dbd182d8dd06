package code_test

import (
	"testing"

	"codewright/api"
	"codewright/code"
	"codewright/field"
)

// TestPairs compares with all words.
func TestPairs(t *testing.T) {
	r := &random{state: 1}
	for _, g := range small(t) {
		for n := 1; n <= longest(g, 81); n++ {
			for range 20 {
				c, d := r.code(t, g, r.below(n+1), n), r.code(t, g, r.below(n+1), n)
				keptC, keptD := copied(c), copied(d)
				pair(t, g, c, d)
				pair(t, g, c, c)
				both, _ := code.Meet(c, d)
				pair(t, g, both, d)
				pair(t, g, d, both)
				hull(t, g, c)
				sameCode(t, c, api.OK, keptC, "Rules: an argument")
				sameCode(t, d, api.OK, keptD, "Rules: an argument")
			}
		}
	}
}

// pair reports an error unless Sum, Meet and Inside are right for c and d.
func pair(t *testing.T, g *field.GF, c, d api.Code) {
	t.Helper()
	inC, inD, sums := spanned(g, c.N, c.Gen), spanned(g, c.N, d.Gen), map[string]bool{}
	inside := true
	for v := range inC {
		inside = inside && inD[v]
		for w := range inD {
			sum := make([]int, c.N)
			for i := range sum {
				sum[i] = g.Add(int(v[i]), int(w[i]))
			}
			sums[key(sum)] = true
		}
	}
	sum, e := code.Sum(c, d)
	isCodeOf(t, sum, e, g, c.N, func(w []int) bool { return sums[key(w)] }, "P12.4: Sum", c, d)
	meet, e := code.Meet(c, d)
	isCodeOf(t, meet, e, g, c.N, func(w []int) bool { return inC[key(w)] && inD[key(w)] }, "P12.4: Meet", c, d)
	in, e := code.Inside(c, d)
	sameBool(t, in, e, inside, "P12.4: Inside", c, d)
}

// hull reports an error unless Hull is right for c.
func hull(t *testing.T, g *field.GF, c api.Code) {
	t.Helper()
	in := spanned(g, c.N, c.Gen)
	have, e := code.Hull(c)
	isCodeOf(t, have, e, g, c.N, func(w []int) bool {
		dual := in[key(w)]
		for _, row := range c.Gen {
			dual = dual && dot(g, w, row) == 0
		}
		return dual
	}, "P12.4: Hull", c)
}

// TestPairsOfLargerCodes tests what follows for the sums, the intersections and the duals of codes of any size.
func TestPairsOfLargerCodes(t *testing.T) {
	r := &random{state: 2}
	for _, g := range fields(t) {
		for _, n := range []int{1, 11, 64} {
			for range 3 {
				c, d := r.code(t, g, r.below(n+1), n), r.code(t, g, r.below(n+1), n)
				sum, e := code.Sum(c, d)
				isPartOf(t, c, sum, true)
				isPartOf(t, d, sum, true)
				meet, e2 := code.Meet(c, d)
				isPartOf(t, meet, c, true)
				isPartOf(t, meet, d, true)
				if e != api.OK || e2 != api.OK || len(sum.Gen)+len(meet.Gen) != len(c.Gen)+len(d.Gen) {
					t.Errorf("P12.4: dimensions %d and %d of the sum and the intersection of codes of dimensions %d and %d", len(sum.Gen), len(meet.Gen), len(c.Gen), len(d.Gen))
				}
				isPartOf(t, sum, c, len(sum.Gen) == len(c.Gen))
				isPartOf(t, d, meet, len(d.Gen) == len(meet.Gen))
				other, _ := code.Sum(d, c)
				sameCode(t, other, api.OK, sum, "P12.4: Sum")
				duals(t, c, d, sum)
			}
		}
	}
}

// isPartOf reports an error unless Inside(c, d) is want.
func isPartOf(t *testing.T, c, d api.Code, want bool) {
	t.Helper()
	in, e := code.Inside(c, d)
	sameBool(t, in, e, want, "P12.4: Inside", c, d)
}

// duals reports an error unless the dual code of the sum of c and d is the intersection of their dual codes, and the hull of c is the dual code of the sum of c and its dual code.
func duals(t *testing.T, c, d, sum api.Code) {
	t.Helper()
	dualC, _ := code.Dual(c)
	dualD, _ := code.Dual(d)
	dualSum, _ := code.Dual(sum)
	both, e := code.Meet(dualC, dualD)
	sameCode(t, both, e, dualSum, "P12.6: the dual of a sum", c, d)
	all, _ := code.Sum(c, dualC)
	want, _ := code.Dual(all)
	h, e := code.Hull(c)
	sameCode(t, h, e, want, "P12.4: Hull", c)
}

func TestErrorsOfPairs(t *testing.T) {
	g := standard(t, 3)
	good := coded(g, 3, "101")
	bad := map[api.Errno]api.Code{
		api.ErrField:   {F: api.Field{P: 4, M: 1}, N: 0, Gen: misshaped[0]},
		api.ErrLength:  {F: g.Field(), N: 65, Gen: misshaped[0]},
		api.ErrShape:   {F: g.Field(), N: 3, Gen: misshaped[0]},
		api.ErrElement: {F: g.Field(), N: 3, Gen: notElements[0]},
		api.ErrForm:    {F: g.Field(), N: 3, Gen: notReduced[0]},
	}
	for want, c := range bad {
		failed(t, ofTwo(c, good), want, "P12.1", c)
		failed(t, ofTwo(good, c), want, "P12.1", c)
		failed(t, ofTwo(coded(g, 4), c), want, "P12.1", c)
		for _, d := range bad {
			failed(t, ofTwo(c, d), want, "P12.1", c, d)
		}
	}
	nine, other := standard(t, 9), made(t, api.Field{P: 3, M: 2, Mod: []int{2, 1}})
	for _, x := range [][2]api.Code{
		{good, coded(g, 4, "1010")},
		{good, coded(g, 2)},
		{coded(g, 1), coded(g, 64)},
		{good, coded(nine, 3, "101")},
		{good, coded(standard(t, 2), 3, "101")},
		{coded(nine, 3), coded(other, 3)},
		{coded(nine, 3, "010"), coded(other, 3, "010")},
		{good, coded(standard(t, 5), 4)},
	} {
		failed(t, ofTwo(x[0], x[1]), api.ErrMatch, "P12.4", x)
		failed(t, ofTwo(x[1], x[0]), api.ErrMatch, "P12.4", x)
	}
}

// TestEmptyMod takes nil and empty lists for the same.
func TestEmptyMod(t *testing.T) {
	c := api.Code{F: api.Field{P: 2, M: 1}, N: 3, Gen: digits("110")}
	d := api.Code{F: api.Field{P: 2, M: 1, Mod: []int{}}, N: 3, Gen: [][]int{}}
	sum, e := code.Sum(c, d)
	sameCode(t, sum, e, c, "P12.4: Sum")
	meet, e := code.Meet(d, c)
	sameCode(t, meet, e, api.Code{F: c.F, N: 3}, "P12.4: Meet")
	isPartOf(t, d, c, true)
	isPartOf(t, c, d, false)
}
