package modify_test

import (
	"slices"
	"testing"

	"codewright/api"
	"codewright/field"
	"codewright/modify"
)

// TestSums compares with all words.
func TestSums(t *testing.T) {
	r := &random{state: 1}
	for _, g := range small(t) {
		for n := 1; n <= longest(g, 729); n++ {
			for rows := range n + 1 {
				for range 3 {
					sums(t, g, r.code(t, g, rows, n))
				}
			}
			sums(t, g, generated(t, g, n, [][]int{slices.Repeat([]int{1}, n)}))
		}
	}
}

// sums reports an error unless Extend, Expurgate and Augment are right for c.
func sums(t *testing.T, g *field.GF, c api.Code) {
	t.Helper()
	kept := copied(c)
	var extended, expurgated, augmented [][]int
	for _, w := range spanned(g, c.N, c.Gen) {
		for x := range g.Elements() {
			if longer := append(slices.Clone(w), x); sum(g, longer) == 0 {
				extended = append(extended, longer)
			}
			augmented = append(augmented, plus(g, w, slices.Repeat([]int{x}, c.N)))
		}
		if sum(g, w) == 0 {
			expurgated = append(expurgated, w)
		}
	}
	have, e := modify.Extend(c)
	isCodeOf(t, have, e, g, c.N+1, extended, "P13.2: Extend", c)
	have, e = modify.Expurgate(c)
	isCodeOf(t, have, e, g, c.N, expurgated, "P13.2: Expurgate", c)
	have, e = modify.Augment(c)
	isCodeOf(t, have, e, g, c.N, augmented, "P13.2: Augment", c)
	sameCode(t, c, api.OK, kept, "Rules: an argument")
}

func TestSumsOfLargerCodes(t *testing.T) {
	r := &random{state: 2}
	for _, g := range fields(t) {
		for _, n := range []int{1, 2, 13, 63, 64} {
			for _, rows := range []int{0, 1, n / 2, n - 1, n} {
				c := r.code(t, g, rows, n)
				largerSums(t, g, c)
				if n < api.MaxN {
					extended(t, g, c)
				}
			}
		}
	}
}

// largerSums reports an error unless Expurgate and Augment are right for c.
func largerSums(t *testing.T, g *field.GF, c api.Code) {
	t.Helper()
	repeated := slices.Repeat([]int{1}, c.N)
	augmented, e := modify.Augment(c)
	sameCode(t, augmented, e, generated(t, g, c.N, append(slices.Clone(c.Gen), repeated)), "P13.2: Augment", c)
	less := 0
	for _, row := range c.Gen {
		if sum(g, row) != 0 {
			less = 1
		}
	}
	expurgated, e := modify.Expurgate(c)
	if e != api.OK || len(expurgated.Gen) != len(c.Gen)-less {
		t.Errorf("P13.2: Expurgate(%v): have dimension %d and error %d", c, len(expurgated.Gen), e)
	}
	for _, row := range expurgated.Gen {
		isInside(t, row, c, "P13.2: Expurgate", c)
		if sum(g, row) != 0 {
			t.Errorf("P13.2: Expurgate(%v): have the row %v", c, row)
		}
	}
	have, e := modify.Augment(dual(t, c))
	sameCode(t, have, e, dual(t, expurgated), "P13.6: the dual of an expurgated code", c)
	have, e = modify.Expurgate(dual(t, c))
	sameCode(t, have, e, dual(t, augmented), "P13.6: the dual of an augmented code", c)
}

// extended reports an error unless Extend is right for c.
func extended(t *testing.T, g *field.GF, c api.Code) {
	t.Helper()
	var rows [][]int
	for _, row := range c.Gen {
		rows = append(rows, append(slices.Clone(row), g.Neg(sum(g, row))))
	}
	longer, e := modify.Extend(c)
	sameCode(t, longer, e, api.Code{F: c.F, N: c.N + 1, Gen: rows}, "P13.2: Extend", c)
	have, e := modify.Puncture(longer, []int{c.N})
	sameCode(t, have, e, c, "P13.6: the extended code, punctured", c)
	expurgated, _ := modify.Expurgate(c)
	have, e = modify.Shorten(longer, []int{c.N})
	sameCode(t, have, e, expurgated, "P13.6: the extended code, shortened", c)
	have, e = modify.Expurgate(longer)
	sameCode(t, have, e, longer, "P13.2: Expurgate of an extended code", c)
}

func TestErrorsOfExtend(t *testing.T) {
	r := &random{state: 3}
	for _, g := range fields(t) {
		for _, rows := range []int{0, 1, 64} {
			c := r.code(t, g, rows, 64)
			failed(t, map[string]result{"Extend": of(modify.Extend(c))}, api.ErrLength, "P13.2", c)
		}
		have, e := modify.Extend(api.Code{F: g.Field(), N: 63})
		sameCode(t, have, e, coded(g, 64), "P13.2: Extend")
	}
}
