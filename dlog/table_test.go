package dlog_test

import (
	"math"
	"slices"
	"testing"

	"codewright/api"
	"codewright/dlog"
	"codewright/field"
)

// table returns the table of logarithms to the base b, which is primitive.
func table(t *testing.T, g *field.GF, b int) *dlog.Table {
	t.Helper()
	l, e := dlog.New(g, b)
	if e != api.OK || l == nil {
		t.Fatalf("P8.5: %v: New(%d): error %d", g.Field(), b, e)
	}
	return l
}

// bases returns some primitive elements, the least and the greatest one among them.
func bases(g *field.GF) []int {
	var list []int
	for x := 1; x < g.Order(); x++ {
		if len(powers(g, x)) == g.Order()-1 {
			list = append(list, x)
		}
	}
	if g.Order() > 16 {
		return []int{list[0], list[len(list)/2], list[len(list)-1]}
	}
	return list
}

func TestNew(t *testing.T) {
	for _, g := range fields(t) {
		for b := 1; b < g.Order(); b++ {
			l, e := dlog.New(g, b)
			if len(powers(g, b)) == g.Order()-1 {
				right(t, l.Base(), e, b, api.OK, "P8.5: Base", g, b)
			} else if e != api.ErrForm || l != nil {
				t.Errorf("P8.5: %v: New(%d): have %v and error %d, want ErrForm", g.Field(), b, l, e)
			}
		}
		for _, b := range zeros(g) {
			if l, e := dlog.New(g, b); e != api.ErrZero || l != nil {
				t.Errorf("P8.5: %v: New(%d): have %v and error %d, want ErrZero", g.Field(), b, l, e)
			}
		}
	}
}

func TestLog(t *testing.T) {
	for _, g := range fields(t) {
		for _, b := range bases(g) {
			l, list := table(t, g, b), powers(g, b)
			for x := 1; x < g.Order(); x++ {
				n, e := l.Log(x)
				right(t, n, e, slices.Index(list, x), api.OK, "P8.5: Log", g, b, x)
			}
			for _, x := range zeros(g) {
				n, e := l.Log(x)
				right(t, n, e, 0, api.ErrZero, "P8.5: Log", g, b, x)
			}
		}
	}
}

// exponents returns ints of all sizes, negative ones too.
func exponents(g *field.GF) []int {
	list := []int{math.MaxInt, math.MaxInt - 1, math.MinInt, math.MinInt + 1, 1 << 40, -1 << 40, 1<<31 - 1, -1 << 31}
	for n := -2 * g.Order(); n <= 2*g.Order(); n++ {
		list = append(list, n)
	}
	return list
}

func TestExpAndZech(t *testing.T) {
	for _, g := range fields(t) {
		for _, b := range bases(g) {
			l, list := table(t, g, b), powers(g, b)
			units := len(list)
			for _, n := range exponents(g) {
				power := list[(n%units+units)%units]
				right(t, l.Exp(n), api.OK, power, api.OK, "P8.5: Exp", g, b, n)
				want, wanted := slices.Index(list, g.Add(1, power)), api.OK
				if want < 0 {
					want, wanted = 0, api.ErrZero
				}
				above, e := l.Zech(n)
				right(t, above, e, want, wanted, "P8.5: Zech", g, b, n)
			}
		}
	}
}

func TestMulAndAdd(t *testing.T) {
	r := &random{state: 1}
	for _, g := range fields(t) {
		for _, b := range bases(g) {
			l := table(t, g, b)
			sums := func(x, y int) {
				t.Helper()
				right(t, l.Mul(x, y), api.OK, g.Mul(x, y), api.OK, "P8.5: Mul", g, b, x, y)
				right(t, l.Add(x, y), api.OK, g.Add(x, y), api.OK, "P8.5: Add", g, b, x, y)
			}
			for x := range g.Order() {
				for y := range g.Order() {
					if g.Order() <= 27 || r.below(16) == 0 {
						sums(x, y)
					}
				}
				sums(x, g.Neg(x))
				for _, y := range zeros(g) {
					sums(x, y)
					sums(y, x)
				}
			}
			for _, x := range zeros(g) {
				for _, y := range zeros(g) {
					sums(x, y)
				}
			}
		}
	}
}

func TestLogOfProduct(t *testing.T) {
	r := &random{state: 2}
	for _, g := range fields(t) {
		for _, b := range bases(g) {
			l := table(t, g, b)
			for range 300 {
				x, y := 1+r.below(g.Order()-1), 1+r.below(g.Order()-1)
				m, _ := l.Log(x)
				n, _ := l.Log(y)
				sum, e := l.Log(g.Mul(x, y))
				right(t, sum, e, (m+n)%(g.Order()-1), api.OK, "P8.6: the logarithm of a product", g, b, x, y)
			}
		}
	}
}

func TestTableOfTheExample(t *testing.T) {
	g := standard(t, 7)
	right(t, dlog.Primitive(g), api.OK, 3, api.OK, "P8.3: Primitive", g)
	l := table(t, g, 3)
	for n, want := range []int{1, 3, 2, 6, 4, 5} {
		right(t, l.Exp(n), api.OK, want, api.OK, "P8.5: Exp", g, n)
	}
	n, e := l.Log(6)
	right(t, n, e, 3, api.OK, "P8.5: Log", g, 6)
	right(t, l.Exp(-1), api.OK, 5, api.OK, "P8.5: Exp", g, -1)
	n, e = l.Zech(0)
	right(t, n, e, 2, api.OK, "P8.5: Zech", g, 0)
	n, e = l.Zech(3)
	right(t, n, e, 0, api.ErrZero, "P8.5: Zech", g, 3)
}
