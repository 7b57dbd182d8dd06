package tower_test

import (
	"math"
	"slices"
	"testing"

	"codewright/api"
	"codewright/field"
	"codewright/tower"
)

// basesOf reports an error unless IsBasis, Coordinates and Dual are right for the list l over the subfield of degree d with the elements sub.
func basesOf(t *testing.T, g *field.GF, l []int, d int, sub []int) {
	t.Helper()
	kept := slices.Clone(l)
	coordinates, ok := spans(g, l, sub)
	ok = ok && len(l) == g.Field().M/d
	if tower.IsBasis(g, l, d) != ok {
		t.Errorf("P7.5: %v: IsBasis(%v, %d) is not %v", g.Field(), l, d, ok)
	}
	dual, e := tower.Dual(g, l, d)
	if !ok && (e != api.ErrRank || len(dual) > 0) {
		t.Errorf("P7.5: %v: Dual(%v, %d): have %v and error %d, want ErrRank", g.Field(), l, d, dual, e)
	}
	if ok {
		isDual(t, g, l, dual, e, d)
	}
	for _, x := range []int{0, 1, g.Order() - 1, g.Order() / 2, g.Order() / 3, -1, g.Order(), math.MinInt} {
		have, e := tower.Coordinates(g, l, d, x)
		if !ok && (e != api.ErrRank || len(have) > 0) {
			t.Errorf("P7.5: %v: Coordinates(%v, %d, %d): have %v and error %d, want ErrRank", g.Field(), l, d, x, have, e)
		}
		if ok {
			sameList(t, have, e, coordinates[counted(g, x)], "P7.5: Coordinates", g, l, d, x)
		}
	}
	if !slices.Equal(l, kept) {
		t.Errorf("Rules: an argument is changed: %v", kept)
	}
}

// isDual reports an error unless e is OK and dual the dual basis of l.
func isDual(t *testing.T, g *field.GF, l, dual []int, e api.Errno, d int) {
	t.Helper()
	if e != api.OK || len(dual) != len(l) {
		t.Fatalf("P7.5: %v: Dual(%v, %d): have %v and error %d", g.Field(), l, d, dual, e)
	}
	for i, x := range l {
		for j, y := range dual {
			want := 0
			if i == j {
				want = 1
			}
			trace, _ := tower.Trace(g, g.Mul(x, y), d)
			sameInt(t, trace, e, want, "P7.5: Dual", g, l, d, i, j)
		}
	}
	back, e := tower.Dual(g, dual, d)
	sameList(t, back, e, l, "P7.5: the dual basis of the dual basis", g, l, d)
}

func TestBases(t *testing.T) {
	r := &random{state: 4}
	for _, g := range fields(t) {
		for _, d := range degrees(g) {
			_, sub := inside(g, d)
			for range 12 {
				l, _ := r.basis(g, d, sub)
				basesOf(t, g, l, d, sub)
				slices.Reverse(l)
				basesOf(t, g, l, d, sub)
				loose := make([]int, len(l))
				for i := range loose {
					loose[i] = r.below(g.Order())
				}
				basesOf(t, g, loose, d, sub)
			}
		}
	}
}

func TestAllLists(t *testing.T) {
	for _, f := range []api.Field{{P: 2, M: 1}, {P: 3, M: 1}, {P: 7, M: 1}, {P: 2, M: 2, Mod: []int{1, 1}}, {P: 2, M: 3, Mod: []int{1, 1, 0}}, {P: 3, M: 2, Mod: []int{1, 0}}} {
		g := made(t, f)
		for _, d := range degrees(g) {
			_, sub := inside(g, d)
			entries := []int{-1, g.Order()}
			for x := range g.Elements() {
				entries = append(entries, x)
			}
			tuples(entries, f.M/d, func(l []int) { basesOf(t, g, l, d, sub) })
		}
	}
}

func TestNoBases(t *testing.T) {
	r := &random{state: 5}
	for _, g := range fields(t) {
		for _, d := range degrees(g) {
			_, sub := inside(g, d)
			good, _ := r.basis(g, d, sub)
			bad := [][]int{nil, {}, good[1:], append(slices.Clone(good), 1), append(slices.Clone(good), 0), append(slices.Clone(good), good...)}
			for i := range good {
				for _, x := range append(strangers(g), 0) {
					other := slices.Clone(good)
					other[i] = x
					bad = append(bad, other)
				}
				if i > 0 {
					other := slices.Clone(good)
					other[i] = g.Mul(other[0], sub[len(sub)-1])
					bad = append(bad, other)
				}
			}
			for _, l := range bad {
				x, e := tower.Coordinates(g, l, d, 1)
				y, k := tower.Dual(g, l, d)
				if tower.IsBasis(g, l, d) || e != api.ErrRank || k != api.ErrRank || len(x) > 0 || len(y) > 0 {
					t.Errorf("P7.5: %v: IsBasis, Coordinates or Dual of %v over the degree %d: %v, %v", g.Field(), l, d, e, k)
				}
			}
		}
	}
}

func TestCoordinatesOfAllElements(t *testing.T) {
	r := &random{state: 6}
	for _, g := range fields(t) {
		for _, d := range degrees(g) {
			_, sub := inside(g, d)
			l, coordinates := r.basis(g, d, sub)
			for _, x := range every(g) {
				have, e := tower.Coordinates(g, l, d, x)
				sameList(t, have, e, coordinates[counted(g, x)], "P7.5: Coordinates", g, l, d, x)
			}
		}
	}
}

func TestNormal(t *testing.T) {
	for _, g := range fields(t) {
		for _, d := range degrees(g) {
			_, sub := inside(g, d)
			want := 0
			for ok := false; !ok; {
				var l []int
				for i := range g.Field().M / d {
					l = append(l, raised(g, want, d*i))
				}
				if _, ok = spans(g, l, sub); !ok {
					want++
				}
			}
			have, e := tower.Normal(g, d)
			sameInt(t, have, e, want, "P7.5: Normal", g, d)
		}
	}
}

func TestResultsAreNewMemory(t *testing.T) {
	g := sixteen(t)
	basis := []int{1, 2}
	calls := map[string]func() ([]int, api.Errno){
		"Subfield":    func() ([]int, api.Errno) { return tower.Subfield(g, 2) },
		"Conjugates":  func() ([]int, api.Errno) { return tower.Conjugates(g, 2, 1) },
		"Minimal":     func() ([]int, api.Errno) { return tower.Minimal(g, 2, 1) },
		"Embed":       func() ([]int, api.Errno) { return tower.Embed(g.Field(), g) },
		"Coordinates": func() ([]int, api.Errno) { return tower.Coordinates(g, basis, 2, 8) },
		"Dual":        func() ([]int, api.Errno) { return tower.Dual(g, basis, 2) },
	}
	for name, call := range calls {
		first, _ := call()
		want := slices.Clone(first)
		for i := range first {
			first[i] = -1
		}
		again, e := call()
		sameList(t, again, e, want, "Rules: "+name, g)
	}
	sameList(t, basis, api.OK, []int{1, 2}, "Rules: an argument", g)
}
