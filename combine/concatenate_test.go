package combine_test

import (
	"math"
	"slices"
	"testing"

	"codewright/api"
	"codewright/combine"
	"codewright/field"
	"codewright/tower"
)

// pairs calls do for each pair of a field and a field whose order is a power of the order of the first, in which that one is embedded by images.
func pairs(t *testing.T, do func(low, high *field.GF, images []int)) {
	t.Helper()
	for _, high := range fields(t) {
		for _, low := range fields(t) {
			if images, e := tower.Embed(low.Field(), high); e == api.OK {
				do(low, high, images)
			}
		}
	}
}

// concatenated returns the word w of the outer code with each entry replaced by the word of inner whose message are its coordinates.
func concatenated(low, high *field.GF, images []int, w []int, inner api.Code, basis []int) []int {
	list := []int{}
	for _, x := range w {
		var msg []int
		coordinates, _ := tower.Coordinates(high, basis, low.Field().M, x)
		for _, y := range coordinates {
			msg = append(msg, slices.Index(images, y))
		}
		list = append(list, combined(low, msg, inner)...)
	}
	return list
}

// TestConcatenate compares with all words of the outer code.
func TestConcatenate(t *testing.T) {
	r := &random{state: 1}
	pairs(t, func(low, high *field.GF, images []int) {
		s := high.Field().M / low.Field().M
		for n := 1; n <= longest(high, 300); n++ {
			for _, length := range []int{s, s + 1, s + 3} {
				if n*length > 12 {
					continue
				}
				outer, inner, basis := r.code(t, high, 1+r.below(n), n), r.exact(t, low, s, length), r.basis(high, low.Field().M)
				keptOuter, keptInner, keptBasis := copied(outer), copied(inner), slices.Clone(basis)
				concatenate(t, low, high, images, outer, inner, basis)
				sameCode(t, outer, api.OK, keptOuter, "Rules: an argument")
				sameCode(t, inner, api.OK, keptInner, "Rules: an argument")
				if !slices.Equal(basis, keptBasis) {
					t.Errorf("Rules: an argument is changed: %v", keptBasis)
				}
			}
		}
	})
}

// concatenate reports an error unless Concatenate is right.
func concatenate(t *testing.T, low, high *field.GF, images []int, outer, inner api.Code, basis []int) {
	t.Helper()
	var want [][]int
	for _, w := range spanned(high, outer.N, outer.Gen) {
		want = append(want, concatenated(low, high, images, w, inner, basis))
	}
	have, e := combine.Concatenate(outer, inner, basis)
	isCodeOf(t, have, e, low, outer.N*inner.N, want, "P14.5: Concatenate", outer, inner, basis)
	if len(have.Gen) != len(inner.Gen)*len(outer.Gen) {
		t.Errorf("P14.5: Concatenate(%v, %v, %v): have dimension %d", outer, inner, basis, len(have.Gen))
	}
	if d := distance(low, have); len(have.Gen) > 0 && d < distance(high, outer)*distance(low, inner) {
		t.Errorf("P14.7: the distance of Concatenate(%v, %v, %v) is %d", outer, inner, basis, d)
	}
}

func TestConcatenateLargerCodes(t *testing.T) {
	r := &random{state: 2}
	pairs(t, func(low, high *field.GF, images []int) {
		s := high.Field().M / low.Field().M
		for _, length := range []int{s, s + 1, 2 * s, 13, 64} {
			n := 64 / length
			for _, rows := range []int{0, 1, n / 2, n} {
				outer, inner, basis := r.code(t, high, rows, n), r.exact(t, low, s, length), r.basis(high, low.Field().M)
				var list [][]int
				for range 2 * len(outer.Gen) {
					w := combined(high, r.list(high, len(outer.Gen), 1), outer)
					list = append(list, concatenated(low, high, images, w, inner, basis))
				}
				have, e := combine.Concatenate(outer, inner, basis)
				spansCode(t, have, e, low, n*length, s*len(outer.Gen), list, "P14.5: Concatenate", outer, inner, basis)
			}
		}
	})
}

func TestErrorsOfConcatenate(t *testing.T) {
	concatenated := func(outer, inner api.Code, basis []int) map[string]result {
		return map[string]result{"Concatenate": of(combine.Concatenate(outer, inner, basis))}
	}
	r := &random{state: 3}
	for _, high := range fields(t) {
		for _, low := range fields(t) {
			p, m, d := high.Field().P, high.Field().M, low.Field().M
			if low.Field().P != p || m%d != 0 {
				for _, k := range []int{0, 1, 2} {
					failed(t, concatenated(units(high, 64), r.exact(t, low, k, 64), nil), api.ErrMatch, "P14.5", high.Field(), low.Field())
					failed(t, concatenated(units(high, 2), r.exact(t, low, k, 2), []int{1, 2}), api.ErrMatch, "P14.5", high.Field(), low.Field())
				}
				continue
			}
			basis := r.basis(high, d)
			for k := range 10 {
				if k != m/d {
					failed(t, concatenated(units(high, 64), r.exact(t, low, k, 64), nil), api.ErrMatch, "P14.5", high.Field(), low.Field(), k)
					failed(t, concatenated(units(high, 2), r.exact(t, low, k, 10), basis), api.ErrMatch, "P14.5", high.Field(), low.Field(), k)
				}
			}
			inner := units(low, m/d)
			for _, l := range noBases(high, basis) {
				failed(t, concatenated(units(high, 1), inner, l), api.ErrRank, "P14.5", high.Field(), low.Field(), l)
				failed(t, concatenated(units(high, 64), r.exact(t, low, m/d, 64), l), api.ErrRank, "P14.5", high.Field(), low.Field(), l)
			}
			failed(t, concatenated(units(high, 64/(m/d)+1), inner, basis), api.ErrLength, "P14.5", high.Field(), low.Field())
			failed(t, concatenated(coded(high, 2), r.exact(t, low, m/d, 33), basis), api.ErrLength, "P14.5", high.Field(), low.Field())
			failed(t, concatenated(coded(high, 64), r.exact(t, low, m/d, 64), basis), api.ErrLength, "P14.5", high.Field(), low.Field())
		}
	}
}

// noBases returns lists that are no bases, made from a basis.
func noBases(g *field.GF, basis []int) [][]int {
	list := [][]int{nil, {}, basis[1:], append(slices.Clone(basis), 1), append(slices.Clone(basis), 0), make([]int, len(basis)), make([]int, 300)}
	for i := range basis {
		for _, x := range []int{0, -1, g.Order(), 1 << 32, math.MinInt, math.MaxInt} {
			other := slices.Clone(basis)
			other[i] = x
			list = append(list, other)
		}
		if i > 0 {
			other := slices.Clone(basis)
			other[i] = other[i-1]
			list = append(list, other)
		}
	}
	return list
}
