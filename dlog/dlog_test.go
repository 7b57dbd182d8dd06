package dlog_test

import (
	"math"
	"slices"
	"testing"

	"codewright/api"
	"codewright/dlog"
	"codewright/field"
)

func TestOrder(t *testing.T) {
	for _, g := range fields(t) {
		for x := 1; x < g.Order(); x++ {
			p, e := dlog.Order(g, x)
			if want := proofOf(g, x); e != api.OK || !sameProof(p, want) {
				t.Errorf("P8.1: %v: Order(%d): have %v and error %d, want %v", g.Field(), x, p, e, want)
			}
			if e := dlog.CheckOrder(g, x, p); e != api.OK {
				t.Errorf("P8.2: %v: CheckOrder(%d, %v): error %d", g.Field(), x, p, e)
			}
			for i := range p.Primes {
				p.Primes[i] = -1
			}
			if p, _ := dlog.Order(g, x); !sameProof(p, proofOf(g, x)) {
				t.Errorf("Rules: %v: Order(%d) returns memory that is kept", g.Field(), x)
			}
		}
		for _, x := range zeros(g) {
			if p, e := dlog.Order(g, x); e != api.ErrZero || p.Order != 0 || len(p.Primes) > 0 {
				t.Errorf("P8.1: %v: Order(%d): have %v and error %d, want ErrZero", g.Field(), x, p, e)
			}
		}
	}
}

// checked reports an error unless CheckOrder accepts p just if it is the proof of the order of x.
func checked(t *testing.T, g *field.GF, x int, p api.OrderProof) {
	t.Helper()
	want := api.ErrReject
	if counted(g, x) != 0 && sameProof(p, proofOf(g, x)) {
		want = api.OK
	}
	kept := slices.Clone(p.Primes)
	if e := dlog.CheckOrder(g, x, p); e != want {
		t.Errorf("P8.2: %v: CheckOrder(%d, %v): have error %d, want %d", g.Field(), x, p, e, want)
	}
	if !slices.Equal(p.Primes, kept) {
		t.Errorf("Rules: an argument is changed: %v", kept)
	}
}

func TestCheckOrder(t *testing.T) {
	for _, g := range fields(t) {
		for _, x := range append(zeros(g), 1, 2, g.Order()/2, g.Order()-2, g.Order()-1) {
			for n := -2; n <= 2*g.Order(); n++ {
				checked(t, g, x, api.OrderProof{Order: n, Primes: primes(n)})
			}
			for _, n := range []int{math.MaxInt, math.MinInt, math.MinInt + 1, 1 << 31, 1<<31 - 1, 1 << 62} {
				checked(t, g, x, api.OrderProof{Order: n, Primes: nil})
				checked(t, g, x, api.OrderProof{Order: n, Primes: []int{2}})
				checked(t, g, x, api.OrderProof{Order: n, Primes: []int{n}})
			}
		}
	}
}

func TestCheckOrderOfOtherPrimes(t *testing.T) {
	for _, g := range fields(t) {
		for x := range g.Order() {
			p := api.OrderProof{Order: 1}
			if x != 0 {
				p = proofOf(g, x)
			}
			reversed, square := slices.Clone(p.Primes), slices.Clone(p.Primes)
			slices.Reverse(reversed)
			for i, r := range square {
				square[i] = r * r
			}
			others := [][]int{nil, {}, {0}, {1}, {-2}, {math.MinInt}, {p.Order}, reversed, square, append(square, p.Primes...)}
			for i := range len(p.Primes) + 1 {
				for _, r := range []int{-1, 0, 1, 2, 3, 4, 5, 6, 7, p.Order, g.Order(), math.MaxInt} {
					others = append(others, slices.Insert(slices.Clone(p.Primes), i, r))
				}
				if i < len(p.Primes) {
					others = append(others, slices.Delete(slices.Clone(p.Primes), i, i+1))
					others = append(others, slices.Insert(slices.Clone(p.Primes), i, p.Primes[i]))
				}
			}
			for _, l := range others {
				checked(t, g, x, api.OrderProof{Order: p.Order, Primes: l})
			}
		}
	}
}

func TestPrimitive(t *testing.T) {
	for _, g := range fields(t) {
		least := 0
		for x := range g.Order() {
			want := x > 0 && len(powers(g, x)) == g.Order()-1
			if dlog.IsPrimitive(g, x) != want {
				t.Errorf("P8.3: %v: IsPrimitive(%d) is not %v", g.Field(), x, want)
			}
			if want && least == 0 {
				least = x
			}
		}
		right(t, dlog.Primitive(g), api.OK, least, api.OK, "P8.3: Primitive", g)
		for _, x := range zeros(g) {
			if dlog.IsPrimitive(g, x) {
				t.Errorf("P8.3: %v: IsPrimitive(%d)", g.Field(), x)
			}
		}
	}
}

func TestSolve(t *testing.T) {
	for _, g := range fields(t) {
		for b := 1; b < g.Order(); b++ {
			list := powers(g, b)
			for x := 1; x < g.Order(); x++ {
				want, wanted := slices.Index(list, x), api.OK
				if want < 0 {
					want, wanted = 0, api.ErrNone
				}
				n, e := dlog.Solve(g, b, x)
				right(t, n, e, want, wanted, "P8.4: Solve", g, b, x)
			}
		}
		for _, zero := range zeros(g) {
			for _, x := range []int{1, g.Order() - 1, 0, -1, g.Order(), math.MinInt} {
				n, e := dlog.Solve(g, zero, x)
				right(t, n, e, 0, api.ErrZero, "P8.4: Solve", g, zero, x)
				n, e = dlog.Solve(g, x, zero)
				right(t, n, e, 0, api.ErrZero, "P8.4: Solve", g, x, zero)
			}
		}
	}
}

func TestExamples(t *testing.T) {
	g := standard(t, 16)
	right(t, dlog.Primitive(g), api.OK, 2, api.OK, "P8.3: Primitive", g)
	for x, want := range map[int]api.OrderProof{1: {Order: 1}, 2: {Order: 15, Primes: []int{3, 5}}, 6: {Order: 3, Primes: []int{3}}} {
		if p, e := dlog.Order(g, x); e != api.OK || !sameProof(p, want) {
			t.Errorf("P8.1: Order(%d): have %v and error %d, want %v", x, p, e, want)
		}
	}
	n, e := dlog.Solve(g, 6, 7)
	right(t, n, e, 2, api.OK, "P8.4: Solve", g, 6, 7)
	n, e = dlog.Solve(g, 6, 2)
	right(t, n, e, 0, api.ErrNone, "P8.4: Solve", g, 6, 2)
	seven := standard(t, 7)
	if e := dlog.CheckOrder(seven, 2, api.OrderProof{Order: 6, Primes: []int{2, 3}}); e != api.ErrReject {
		t.Errorf("P8.2: CheckOrder(2, {6, [2 3]}): error %d", e)
	}
	if e := dlog.CheckOrder(seven, 2, api.OrderProof{Order: 3, Primes: []int{3}}); e != api.OK {
		t.Errorf("P8.2: CheckOrder(2, {3, [3]}): error %d", e)
	}
}
