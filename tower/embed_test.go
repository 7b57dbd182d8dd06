package tower_test

import (
	"slices"
	"testing"

	"codewright/api"
	"codewright/field"
	"codewright/tower"
)

// image returns the image of x as the chapter defines it.
func image(small api.Field, g *field.GF, x int) int {
	if small.M == 1 {
		return x
	}
	value := func(coefficients []int, r int) int {
		sum, power := 0, 1
		for _, c := range coefficients {
			sum = g.Add(sum, g.Mul(c, power))
			power = g.Mul(power, r)
		}
		return sum
	}
	least := 0
	for value(append(slices.Clone(small.Mod), 1), least) != 0 {
		least++
	}
	var digits []int
	for range small.M {
		digits = append(digits, x%small.P)
		x /= small.P
	}
	return value(digits, least)
}

func TestEmbed(t *testing.T) {
	for _, g := range fields(t) {
		for _, small := range described(t) {
			if small.P != g.Field().P || g.Field().M%small.M != 0 {
				continue
			}
			from, kept := made(t, small), slices.Clone(small.Mod)
			var want []int
			for x := range from.Elements() {
				want = append(want, image(small, g, x))
			}
			have, e := tower.Embed(small, g)
			sameList(t, have, e, want, "P7.3: Embed", g, small)
			if !slices.Equal(small.Mod, kept) {
				t.Errorf("Rules: an argument is changed: %v", kept)
			}
			respects(t, from, g, have)
			slices.Sort(have)
			sub, e := tower.Subfield(g, small.M)
			sameList(t, have, e, sub, "P7.3: the images", g, small)
		}
	}
}

// respects reports an error unless the map of the elements of from to the images respects sums and products.
func respects(t *testing.T, from, g *field.GF, images []int) {
	t.Helper()
	for x := range from.Elements() {
		for y := range from.Elements() {
			sameInt(t, images[from.Add(x, y)], api.OK, g.Add(images[x], images[y]), "P7.3: the image of a sum", g, from.Field(), x, y)
			sameInt(t, images[from.Mul(x, y)], api.OK, g.Mul(images[x], images[y]), "P7.3: the image of a product", g, from.Field(), x, y)
		}
	}
}

func TestEmbedInPrimeField(t *testing.T) {
	for _, g := range fields(t) {
		var want []int
		for x := range g.Field().P {
			want = append(want, x)
		}
		for _, mod := range [][]int{nil, {}} {
			have, e := tower.Embed(api.Field{P: g.Field().P, M: 1, Mod: mod}, g)
			sameList(t, have, e, want, "P7.3: Embed", g, "the prime field")
		}
	}
}

func TestEmbedDoesNotKeepSpareMemory(t *testing.T) {
	g := sixteen(t)
	memory := []int{1, 1, 5, 5}
	images, e := tower.Embed(api.Field{P: 2, M: 2, Mod: memory[:2]}, g)
	sameList(t, images, e, []int{0, 1, 6, 7}, "P7.3: Embed", g)
	sameList(t, memory, api.OK, []int{1, 1, 5, 5}, "Rules: an argument is changed", g)
}

func TestEmbedOfNoField(t *testing.T) {
	bad := []api.Field{
		{}, {P: 4, M: 1}, {P: 2, M: 0}, {P: 2, M: -1}, {P: 2, M: 1, Mod: []int{1}}, {P: 2, M: 2}, {P: 2, M: 2, Mod: []int{1, 0}},
		{P: 2, M: 2, Mod: []int{1, 1, 0}}, {P: 2, M: 2, Mod: []int{3, 1}}, {P: 2, M: 9, Mod: []int{1, 0, 0, 0, 1, 0, 0, 0, 0}},
		{P: 257, M: 1}, {P: 3, M: 2, Mod: []int{0, 0}}, {P: -2, M: 1}, {P: 15, M: 3, Mod: []int{1, 1, 1}},
	}
	for _, g := range fields(t) {
		for _, f := range bad {
			if l, e := tower.Embed(f, g); e != api.ErrField || len(l) > 0 {
				t.Errorf("P7.3: %v: Embed(%v): have %v and error %d, want ErrField", g.Field(), f, l, e)
			}
		}
	}
}

func TestEmbedOfOtherFields(t *testing.T) {
	for _, g := range fields(t) {
		for _, f := range described(t) {
			fits := f.P == g.Field().P && g.Field().M%f.M == 0
			if l, e := tower.Embed(f, g); !fits && (e != api.ErrMatch || len(l) > 0) {
				t.Errorf("P7.3: %v: Embed(%v): have %v and error %d, want ErrMatch", g.Field(), f, l, e)
			}
		}
	}
}
