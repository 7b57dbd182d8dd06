package field_test

import (
	"math"
	"testing"

	"codewright/api"
	"codewright/field"
)

func TestSumsAndProducts(t *testing.T) {
	for _, f := range described() {
		g, s := made(t, f), slow{f}
		for x := range g.Order() {
			for y := range g.Order() {
				sum := s.add(x, y)
				equal(t, g.Add(x, y), sum, "P4.2", "Add", f, x, y)
				equal(t, g.Mul(x, y), s.mul(x, y), "P4.2", "Mul", f, x, y)
				equal(t, g.Sub(sum, y), x, "P4.2", "Sub", f, sum, y)
				if sum == 0 {
					equal(t, g.Neg(x), y, "P4.2", "Neg", f, x)
				}
			}
		}
	}
}

func TestInversesAndQuotients(t *testing.T) {
	for _, f := range described() {
		g, s := made(t, f), slow{f}
		for x := range g.Order() {
			inverse, e := g.Inv(x)
			if x == 0 {
				right(t, inverse, e, 0, api.ErrZero, "P4.2", "Inv", f, x)
			} else if !g.Is(inverse) || s.mul(x, inverse) != 1 || e != api.OK {
				t.Errorf("P4.2: %v: Inv(%d) is %d, error %d", f, x, inverse, e)
			}
			for y := range g.Order() {
				quo, e := g.Div(x, y)
				if y == 0 {
					right(t, quo, e, 0, api.ErrZero, "P4.2", "Div", f, x, y)
				} else if !g.Is(quo) || g.Mul(quo, y) != x || e != api.OK {
					t.Errorf("P4.2: %v: Div(%d, %d) is %d, error %d", f, x, y, quo, e)
				}
			}
		}
	}
}

func TestPowersAndOrders(t *testing.T) {
	for _, f := range described() {
		g, s := made(t, f), slow{f}
		for x := range g.Order() {
			if x == 0 {
				powersOfZero(t, g, x)
				continue
			}
			order := 1
			for p := x; p != 1; p = s.mul(p, x) {
				order++
			}
			have, e := g.MulOrder(x)
			right(t, have, e, order, api.OK, "P4.2", "MulOrder", f, x)
			inverse, _ := g.Inv(x)
			up, down := 1, 1
			for n := range 12 {
				have, e := g.Pow(x, n)
				right(t, have, e, up, api.OK, "P4.2", "Pow", f, x, n)
				have, e = g.Pow(x, -n)
				right(t, have, e, down, api.OK, "P4.2", "Pow", f, x, -n)
				up, down = s.mul(up, x), s.mul(down, inverse)
			}
			highPowers(t, g, x, order)
		}
	}
}

// powersOfZero tests the powers of an int that counts as 0.
func powersOfZero(t *testing.T, g *field.GF, x int) {
	t.Helper()
	have, e := g.Pow(x, 0)
	right(t, have, e, 1, api.OK, "P4.2", "Pow", g.Field(), x, 0)
	for _, n := range []int{1, 2, g.Order() - 1, g.Order(), math.MaxInt} {
		have, e = g.Pow(x, n)
		right(t, have, e, 0, api.OK, "P4.2", "Pow", g.Field(), x, n)
		have, e = g.Pow(x, -n)
		right(t, have, e, 0, api.ErrZero, "P4.2", "Pow", g.Field(), x, -n)
	}
	have, e = g.Pow(x, math.MinInt)
	right(t, have, e, 0, api.ErrZero, "P4.2", "Pow", g.Field(), x, math.MinInt)
	have, e = g.MulOrder(x)
	right(t, have, e, 0, api.ErrZero, "P4.2", "MulOrder", g.Field(), x)
}

// highPowers compares powers with those whose exponents are reduced modulo the order of x.
func highPowers(t *testing.T, g *field.GF, x, order int) {
	t.Helper()
	for _, n := range []int{-1, g.Order() - 1, g.Order(), 1 - g.Order(), -g.Order(), 1000003, -1000003, 1 << 40, math.MaxInt, math.MaxInt - 1, math.MinInt, math.MinInt + 1} {
		want := 1
		for range (n%order + order) % order {
			want = g.Mul(want, x)
		}
		have, e := g.Pow(x, n)
		right(t, have, e, want, api.OK, "P4.2", "Pow", g.Field(), x, n)
	}
}

func TestStrangersCountAsZero(t *testing.T) {
	for _, f := range described() {
		g := made(t, f)
		for _, x := range strangers(g.Order()) {
			powersOfZero(t, g, x)
			equal(t, g.Neg(x), 0, "P4.2", "Neg", f, x)
			have, e := g.Inv(x)
			right(t, have, e, 0, api.ErrZero, "P4.2", "Inv", f, x)
			for _, y := range []int{0, 1, g.Order() - 1, x, -1, g.Order()} {
				other := y
				if !g.Is(y) {
					other = 0
				}
				equal(t, g.Add(x, y), other, "P4.2", "Add", f, x, y)
				equal(t, g.Add(y, x), other, "P4.2", "Add", f, y, x)
				equal(t, g.Sub(x, y), g.Neg(other), "P4.2", "Sub", f, x, y)
				equal(t, g.Sub(y, x), other, "P4.2", "Sub", f, y, x)
				equal(t, g.Mul(x, y), 0, "P4.2", "Mul", f, x, y)
				equal(t, g.Mul(y, x), 0, "P4.2", "Mul", f, y, x)
				have, e := g.Div(y, x)
				right(t, have, e, 0, api.ErrZero, "P4.2", "Div", f, y, x)
				if have, e = g.Div(x, y); other != 0 {
					right(t, have, e, 0, api.OK, "P4.2", "Div", f, x, y)
				} else {
					right(t, have, e, 0, api.ErrZero, "P4.2", "Div", f, x, y)
				}
			}
		}
	}
}
