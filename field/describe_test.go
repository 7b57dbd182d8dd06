package field_test

import (
	"math"
	"slices"
	"testing"

	"codewright/api"
	"codewright/field"
)

// checked reports an error unless Check and New accept f just if it describes a field.
func checked(t *testing.T, f api.Field, isField bool) {
	t.Helper()
	e, want := field.Check(f), api.ErrField
	if isField {
		want = api.OK
	}
	if e != want {
		t.Errorf("P4.1: Check(%v): error %d", f, e)
	}
	g, e := field.New(f)
	if e != want || (g != nil) != isField {
		t.Errorf("P4.1: New(%v): %v and error %d", f, g != nil, e)
	}
}

func TestCheckOfAllPolynomials(t *testing.T) {
	for q, k := range kinds() {
		if k.m == 1 {
			checked(t, api.Field{P: q, M: 1}, true)
			checked(t, api.Field{P: q, M: 1, Mod: []int{}}, true)
			checked(t, api.Field{P: q, M: 1, Mod: []int{0}}, false)
			checked(t, api.Field{P: q, M: 1, Mod: []int{1}}, false)
			continue
		}
		for x, no := range reducible(k, q) {
			checked(t, api.Field{P: k.p, M: k.m, Mod: split(x, k.p, k.m)}, !no)
		}
	}
}

func TestCheckOfOrders(t *testing.T) {
	all := kinds()
	for p := -3; p <= 300; p++ {
		checked(t, api.Field{P: p, M: 1}, all[p].m == 1)
	}
	for _, p := range []int{257, 65537, 1<<31 - 1, 1<<32 + 2, 1<<32 + 3, 1 << 62, 1<<61 - 1, math.MaxInt, math.MinInt, math.MinInt + 2, -1 << 32, -2, -7} {
		for _, m := range []int{math.MinInt, -1, 0, 1, 2, 64} {
			checked(t, api.Field{P: p, M: m}, false)
			checked(t, api.Field{P: p, M: m, Mod: []int{1, 1}}, false)
		}
	}
	for _, m := range []int{math.MinInt, -2, -1, 0, 3, 8, 9, 62, 63, 64, 65, 1 << 32, 1<<32 + 2, math.MaxInt} {
		for _, p := range []int{2, 3, 13, 17, 251} {
			checked(t, api.Field{P: p, M: m}, false)
			checked(t, api.Field{P: p, M: m, Mod: []int{1, 1}}, false)
		}
	}
	// Irreducible polynomials: X^9 + X^4 + 1 modulo 2, X^2 + 1 modulo 19, and X^6 + X + 2 modulo 3.
	checked(t, api.Field{P: 2, M: 9, Mod: []int{1, 0, 0, 0, 1, 0, 0, 0, 0}}, false)
	checked(t, api.Field{P: 19, M: 2, Mod: []int{1, 0}}, false)
	checked(t, api.Field{P: 3, M: 6, Mod: []int{2, 1, 0, 0, 0, 0}}, false)
	checked(t, api.Field{P: 4, M: 2, Mod: []int{2, 1}}, false)
	checked(t, api.Field{P: 16, M: 2, Mod: []int{8, 1}}, false)
	checked(t, api.Field{}, false)
}

func TestCheckOfCoefficients(t *testing.T) {
	for _, f := range described() {
		if f.M == 1 {
			continue
		}
		for i := range f.Mod {
			for _, c := range []int{-1, f.Mod[i] - f.P, f.Mod[i] + f.P, f.P, f.P + 1, math.MaxInt, math.MinInt} {
				other := slices.Clone(f.Mod)
				other[i] = c
				checked(t, api.Field{P: f.P, M: f.M, Mod: other}, false)
			}
		}
		checked(t, api.Field{P: f.P, M: f.M, Mod: f.Mod[1:]}, false)
		checked(t, api.Field{P: f.P, M: f.M, Mod: f.Mod[:f.M-1]}, false)
		checked(t, api.Field{P: f.P, M: f.M, Mod: append(slices.Clone(f.Mod), 0)}, false)
		checked(t, api.Field{P: f.P, M: f.M, Mod: append(slices.Clone(f.Mod), 1)}, false)
		checked(t, api.Field{P: f.P, M: f.M, Mod: append([]int{0}, f.Mod...)}, false)
		checked(t, api.Field{P: f.P, M: f.M}, false)
		checked(t, api.Field{P: f.P, M: 1, Mod: f.Mod}, false)
		checked(t, api.Field{P: f.P, M: 0, Mod: f.Mod}, false)
		checked(t, api.Field{P: f.P, M: -f.M, Mod: f.Mod}, false)
	}
}

func TestSame(t *testing.T) {
	list := []api.Field{
		{}, {P: 2, M: 1}, {P: 3, M: 1}, {P: 2, M: 2}, {P: 2, M: 1, Mod: []int{0}}, {P: 2, M: 1, Mod: []int{1}}, {P: 2, M: 1, Mod: []int{1, 0}}, {P: 2, M: 2, Mod: []int{1, 1}}, {P: 2, M: 2, Mod: []int{1, 0}},
		{P: 3, M: 2, Mod: []int{1, 1}}, {P: 2, M: 3, Mod: []int{1, 1}}, {P: 2, M: 3, Mod: []int{1, 1, 0}}, {P: 2, M: 3, Mod: []int{1, 0, 1}}, {P: -5, M: 0, Mod: []int{-7, 1 << 40}}, {P: -5, M: 0, Mod: []int{-7, 1 << 41}}, {P: 6, M: -1},
	}
	for i, f := range list {
		for j, h := range list {
			h.Mod = slices.Clone(h.Mod)
			if field.Same(f, h) != (i == j) {
				t.Errorf("P4.1: Same(%v, %v)", f, h)
			}
		}
		if len(f.Mod) == 0 {
			none, empty := f, f
			none.Mod, empty.Mod = nil, []int{}
			if !field.Same(none, empty) || !field.Same(empty, none) {
				t.Errorf("P4.1: Same(%v) with a nil Mod and an empty one", f)
			}
		}
	}
}

func TestStandard(t *testing.T) {
	all := kinds()
	for q := -5; q <= 600; q++ {
		f, e := field.Standard(q)
		k, ok := all[q]
		if !ok {
			if e != api.ErrRange || f.P != 0 || f.M != 0 || len(f.Mod) != 0 {
				t.Errorf("P4.1: Standard(%d): %v and error %d", q, f, e)
			}
			continue
		}
		want := api.Field{P: k.p, M: k.m}
		if k.m > 1 {
			want.Mod = split(slices.Index(reducible(k, q), false), k.p, k.m)
		}
		if e != api.OK || !field.Same(f, want) {
			t.Errorf("P4.1: Standard(%d): have %v and error %d, want %v", q, f, e, want)
		}
		checked(t, f, true)
	}
	for _, q := range []int{math.MinInt, -1 << 32, -256, 1 << 10, 1 << 31, 1 << 32, 1<<32 + 2, 1<<32 + 4, 1 << 62, math.MaxInt} {
		if f, e := field.Standard(q); e != api.ErrRange || f.P != 0 || f.M != 0 || len(f.Mod) != 0 {
			t.Errorf("P4.1: Standard(%d): %v and error %d", q, f, e)
		}
	}
}

func TestStandardFieldsOfTables(t *testing.T) {
	for q, want := range map[int]api.Field{
		2: {P: 2, M: 1}, 3: {P: 3, M: 1}, 4: {P: 2, M: 2, Mod: []int{1, 1}}, 8: {P: 2, M: 3, Mod: []int{1, 1, 0}}, 9: {P: 3, M: 2, Mod: []int{1, 0}}, 16: {P: 2, M: 4, Mod: []int{1, 1, 0, 0}},
		25: {P: 5, M: 2, Mod: []int{2, 0}}, 27: {P: 3, M: 3, Mod: []int{1, 2, 0}}, 32: {P: 2, M: 5, Mod: []int{1, 0, 1, 0, 0}}, 64: {P: 2, M: 6, Mod: []int{1, 1, 0, 0, 0, 0}}, 128: {P: 2, M: 7, Mod: []int{1, 1, 0, 0, 0, 0, 0}},
		251: {P: 251, M: 1}, 256: {P: 2, M: 8, Mod: []int{1, 1, 0, 1, 1, 0, 0, 0}},
	} {
		if f, e := field.Standard(q); e != api.OK || !field.Same(f, want) {
			t.Errorf("P4.1: Standard(%d): have %v and error %d, want %v", q, f, e, want)
		}
	}
}

func TestDescriptionOfAField(t *testing.T) {
	for _, f := range described() {
		g := made(t, f)
		q := 1
		for range f.M {
			q *= f.P
		}
		equal(t, g.Order(), q, "P4.1", "Order", f)
		if !field.Same(g.Field(), f) {
			t.Errorf("P4.1: New(%v) has the description %v", f, g.Field())
		}
		for x := range q {
			if !g.Is(x) {
				t.Errorf("P4.1: %v: %d is an element", f, x)
			}
		}
		for _, x := range strangers(q) {
			if g.Is(x) {
				t.Errorf("P4.1: %v: %d is no element", f, x)
			}
		}
	}
}

func TestDescriptionIsNewMemory(t *testing.T) {
	f := api.Field{P: 2, M: 3, Mod: append(make([]int, 0, 8), 1, 1, 0)}
	g := made(t, f)
	if f.Mod[0], f.Mod[1], f.Mod[2] = 0, 0, 1; !slices.Equal(g.Field().Mod, []int{1, 1, 0}) {
		t.Error("P4.1: New keeps its argument")
	}
	h := g.Field()
	if h.Mod[0] = 7; !slices.Equal(g.Field().Mod, []int{1, 1, 0}) || g.Mul(2, 4) != 3 {
		t.Error("P4.1: Field returns what the field keeps")
	}
	first, _ := field.Standard(16)
	first.Mod[0] = 5
	if again, _ := field.Standard(16); !slices.Equal(again.Mod, []int{1, 1, 0, 0}) {
		t.Error("P4.1: Standard(16):", again)
	}
	mod := []int{1, 1, 0, 9}
	if e := field.Check(api.Field{P: 2, M: 3, Mod: mod[:3]}); e != api.OK || !slices.Equal(mod, []int{1, 1, 0, 9}) {
		t.Error("P4.1: Check changes the memory of its argument:", mod, e)
	}
	if made(t, api.Field{P: 2, M: 3, Mod: mod[:3]}); !slices.Equal(mod, []int{1, 1, 0, 9}) {
		t.Error("P4.1: New changes the memory of its argument:", mod)
	}
}
