package field_test

import (
	"math"
	"slices"
	"testing"

	"codewright/api"
	"codewright/field"
)

// counted returns x as it counts: 0 if it is not an element.
func counted(g *field.GF, x int) int {
	if x < 0 || x >= g.Order() {
		return 0
	}
	return x
}

// list returns n ints, most of which are elements.
func (r *random) list(g *field.GF, n int) []int {
	var l []int
	for range n {
		switch r.below(5) {
		case 0:
			l = append(l, strangers(g.Order())[r.below(13)])
		default:
			l = append(l, r.below(g.Order()))
		}
	}
	return l
}

func TestListsOfElements(t *testing.T) {
	r := &random{state: 1}
	for _, f := range described() {
		g, s := made(t, f), slow{f}
		for range 40 {
			a, b := r.list(g, r.below(9)), r.list(g, r.below(9))
			keptA, keptB := slices.Clone(a), slices.Clone(b)
			sum, dot := 0, 0
			for i, x := range a {
				sum = s.add(sum, counted(g, x))
				if i < len(b) {
					dot = s.add(dot, s.mul(counted(g, x), counted(g, b[i])))
				}
			}
			equal(t, g.Sum(a...), sum, "P4.3", "Sum", f, a)
			equal(t, g.Dot(a, b), dot, "P4.3", "Dot", f, a, b)
			equal(t, g.Dot(b, a), dot, "P4.3", "Dot", f, b, a)
			for _, factor := range []int{0, 1, g.Order() - 1, r.below(g.Order()), -1, g.Order(), math.MinInt} {
				scaled := g.Scale(factor, a)
				var want []int
				for _, x := range a {
					want = append(want, s.mul(counted(g, factor), counted(g, x)))
				}
				if !slices.Equal(scaled, want) {
					t.Errorf("P4.3: %v: Scale(%d, %v): have %v, want %v", f, factor, a, scaled, want)
				}
				if len(scaled) > 0 {
					scaled[0] = -99
				}
			}
			if !slices.Equal(a, keptA) || !slices.Equal(b, keptB) {
				t.Errorf("P4.3: %v: a list is changed: %v, %v", f, a, b)
			}
		}
	}
}

func TestListsOfNothing(t *testing.T) {
	for _, f := range described() {
		g := made(t, f)
		equal(t, g.Sum(), 0, "P4.3", "Sum", f)
		equal(t, g.Sum(nil...), 0, "P4.3", "Sum", f)
		equal(t, g.Sum(1), 1, "P4.3", "Sum", f, 1)
		for _, l := range [][]int{nil, {}} {
			equal(t, g.Dot(l, []int{1}), 0, "P4.3", "Dot", f, l, 1)
			equal(t, g.Dot([]int{1, 1}, l), 0, "P4.3", "Dot", f, 1, l)
			equal(t, len(g.Scale(1, l)), 0, "P4.3", "Scale", f, 1, l)
		}
		equal(t, g.Dot([]int{1, 1, 1}, []int{1}), 1, "P4.3", "Dot", f)
	}
}

func TestDigits(t *testing.T) {
	for _, f := range described() {
		g := made(t, f)
		for x := range g.Order() {
			have, want := g.Digits(x), split(x, f.P, f.M)
			if !slices.Equal(have, want) {
				t.Errorf("P4.3: %v: Digits(%d): have %v, want %v", f, x, have, want)
			}
			y, e := g.FromDigits(want)
			right(t, y, e, x, api.OK, "P4.3", "FromDigits", f, want)
			have[0] = -1
			if !slices.Equal(g.Digits(x), want) {
				t.Errorf("P4.3: %v: Digits(%d) returns what the field keeps", f, x)
			}
		}
		for _, x := range strangers(g.Order()) {
			if have := g.Digits(x); !slices.Equal(have, make([]int, f.M)) {
				t.Errorf("P4.3: %v: Digits(%d): %v", f, x, have)
			}
		}
	}
}

func TestDigitsOfNoElement(t *testing.T) {
	for _, f := range described() {
		g := made(t, f)
		for _, n := range []int{0, f.M - 1, f.M + 1, f.M + 2, 2 * f.M} {
			if n == f.M {
				continue
			}
			d := make([]int, n)
			x, e := g.FromDigits(d)
			right(t, x, e, 0, api.ErrShape, "P4.3", "FromDigits", f, d)
			for i := range d {
				d[i] = -1
			}
			x, e = g.FromDigits(d)
			right(t, x, e, 0, api.ErrShape, "P4.3", "FromDigits", f, d)
		}
		x, e := g.FromDigits(nil)
		right(t, x, e, 0, api.ErrShape, "P4.3", "FromDigits", f, "nil")
		for i := range f.M {
			for _, c := range []int{-1, f.P, f.P + 1, -f.P, math.MaxInt, math.MinInt, 1 << 32} {
				d := split(g.Order()-1, f.P, f.M)
				d[i] = c
				x, e := g.FromDigits(d)
				right(t, x, e, 0, api.ErrElement, "P4.3", "FromDigits", f, d)
			}
		}
	}
}

func TestElements(t *testing.T) {
	for _, f := range described() {
		g := made(t, f)
		elements := g.Elements()
		if elements == nil {
			t.Fatalf("P4.3: %v: Elements is nil", f)
		}
		for range 2 {
			want := 0
			for x := range elements {
				equal(t, x, want, "P4.3", "Elements", f)
				want++
			}
			equal(t, want, g.Order(), "P4.3", "Elements", f)
		}
		for stop := range g.Order() {
			last := -1
			for x := range elements {
				if last = x; x == stop {
					break
				}
			}
			equal(t, last, stop, "P4.3", "Elements with a break", f)
		}
	}
}
