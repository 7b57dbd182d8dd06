package field_test

import (
	"testing"

	"codewright/api"
	"codewright/field"
)

// laws reports an error unless the laws of fields hold for three elements.
func laws(t *testing.T, g *field.GF, x, y, z int) {
	t.Helper()
	f := g.Field()
	equal(t, g.Add(x, y), g.Add(y, x), "P4.4", "sums commute", f, x, y)
	equal(t, g.Mul(x, y), g.Mul(y, x), "P4.4", "products commute", f, x, y)
	equal(t, g.Add(g.Add(x, y), z), g.Add(x, g.Add(y, z)), "P4.4", "sums associate", f, x, y, z)
	equal(t, g.Mul(g.Mul(x, y), z), g.Mul(x, g.Mul(y, z)), "P4.4", "products associate", f, x, y, z)
	equal(t, g.Mul(x, g.Add(y, z)), g.Add(g.Mul(x, y), g.Mul(x, z)), "P4.4", "products distribute", f, x, y, z)
	equal(t, g.Add(x, 0), x, "P4.4", "0 is neutral", f, x)
	equal(t, g.Mul(x, 1), x, "P4.4", "1 is neutral", f, x)
	pow := func(x int) int {
		p, e := g.Pow(x, f.P)
		right(t, p, e, p, api.OK, "P4.2", "Pow", f, x, f.P)
		return p
	}
	equal(t, pow(g.Add(x, y)), g.Add(pow(x), pow(y)), "P4.4", "the power of a sum", f, x, y)
}

func TestLawsOfFields(t *testing.T) {
	r := &random{state: 2}
	for _, f := range described() {
		g := made(t, f)
		if g.Order() > 16 {
			for range 2000 {
				laws(t, g, r.below(g.Order()), r.below(g.Order()), r.below(g.Order()))
			}
			continue
		}
		for x := range g.Elements() {
			for y := range g.Elements() {
				for z := range g.Elements() {
					laws(t, g, x, y, z)
				}
			}
		}
	}
}

func TestLawsOfOrders(t *testing.T) {
	for _, f := range described() {
		g := made(t, f)
		counts := make([]int, g.Order())
		for x := range g.Elements() {
			p, e := g.Pow(x, g.Order())
			right(t, p, e, x, api.OK, "P4.4", "the power with the exponent Q", f, x)
			if x != 0 {
				n, _ := g.MulOrder(x)
				counts[n]++
			}
		}
		for n := 1; n < g.Order(); n++ {
			want := 0
			for k := 1; k <= n && (g.Order()-1)%n == 0; k++ {
				if coprime(k, n) {
					want++
				}
			}
			equal(t, counts[n], want, "P4.4", "how many elements have the order", f, n)
		}
	}
}

// coprime reports whether a and b have no common divisor other than 1.
func coprime(a, b int) bool {
	for d := 2; d <= min(a, b); d++ {
		if a%d == 0 && b%d == 0 {
			return false
		}
	}
	return true
}

func TestExamples(t *testing.T) {
	standard := func(q int) *field.GF {
		f, e := field.Standard(q)
		if e != api.OK {
			t.Fatal("P4.1: Standard:", q, e)
		}
		return made(t, f)
	}
	four, nine := standard(4), standard(9)
	equal(t, four.Add(2, 3), 1, "P4.2", "Add", four.Field(), 2, 3)
	equal(t, four.Mul(2, 2), 3, "P4.2", "Mul", four.Field(), 2, 2)
	equal(t, four.Mul(2, 3), 1, "P4.2", "Mul", four.Field(), 2, 3)
	n, e := four.MulOrder(2)
	right(t, n, e, 3, api.OK, "P4.2", "MulOrder", four.Field(), 2)
	equal(t, nine.Mul(3, 3), 2, "P4.2", "Mul", nine.Field(), 3, 3)
	equal(t, nine.Neg(1), 2, "P4.2", "Neg", nine.Field(), 1)
	equal(t, nine.Add(5, 7), 0, "P4.2", "Add", nine.Field(), 5, 7)
	two := standard(2)
	equal(t, two.Add(1, 1), 0, "P4.2", "Add", two.Field(), 1, 1)
}
