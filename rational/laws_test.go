package rational_test

import (
	"testing"

	"codewright/api"
	"codewright/rational"
)

func TestLawsOfTheField(t *testing.T) {
	r := &random{state: 53}
	equal := func(law string, a, b api.Rat) {
		t.Helper()
		if rational.Cmp(a, b) != 0 || rational.Text(a) != rational.Text(b) {
			t.Errorf("P2.7: %s: %v and %v", law, a, b)
		}
	}
	for range 800 {
		a, b, c := forms(r.fraction(3))[r.below(4)], forms(r.fraction(3))[r.below(4)], forms(r.fraction(3))[r.below(4)]
		equal("sums commute", rational.Add(a, b), rational.Add(b, a))
		equal("products commute", rational.Mul(a, b), rational.Mul(b, a))
		equal("sums associate", rational.Add(rational.Add(a, b), c), rational.Add(a, rational.Add(b, c)))
		equal("products associate", rational.Mul(rational.Mul(a, b), c), rational.Mul(a, rational.Mul(b, c)))
		equal("products distribute", rational.Mul(a, rational.Add(b, c)), rational.Add(rational.Mul(a, b), rational.Mul(a, c)))
		equal("a number and its negative", rational.Add(a, rational.Neg(a)), api.Rat{})
		equal("a difference", rational.Add(rational.Sub(a, b), b), a)
		equal("0 and 1", rational.Mul(rational.Add(a, rational.Add()), rational.Mul()), a)
		if quo, e := rational.Div(a, b); e == api.OK {
			equal("a quotient", rational.Mul(quo, b), a)
		} else if e != api.ErrZero || rational.Sign(b) != 0 {
			t.Errorf("P2.2: Div(%v, %v): error %d", a, b, e)
		}
		order := rational.Cmp(a, b)
		if order != rational.Sign(rational.Sub(a, b)) || order != -rational.Cmp(b, a) || order != rational.Cmp(rational.Add(a, c), rational.Add(b, c)) {
			t.Errorf("P2.7: the order and sums: %v, %v, %v", a, b, c)
		}
		if rational.Cmp(rational.Mul(a, c), rational.Mul(b, c)) != order*rational.Sign(c) {
			t.Errorf("P2.7: the order and products: %v, %v, %v", a, b, c)
		}
		floor := rational.Floor(a)
		if rational.Cmp(floor, a) > 0 || rational.Cmp(rational.Add(floor, of("1")), a) <= 0 {
			t.Errorf("P2.4: the floor of %v is %v", a, floor)
		}
	}
}

func TestLawsOfPowers(t *testing.T) {
	r := &random{state: 59}
	for range 300 {
		x := r.fraction(2)
		if x.Sign() == 0 {
			continue
		}
		a, m, n := forms(x)[r.below(4)], r.below(41)-20, r.below(41)-20
		p, e := rational.Pow(a, m)
		q, f := rational.Pow(a, n)
		both, g := rational.Pow(a, m+n)
		if e != api.OK || f != api.OK || g != api.OK || rational.Cmp(both, rational.Mul(p, q)) != 0 {
			t.Errorf("P2.7: powers of %v add their exponents %d and %d", x, m, n)
		}
	}
}

func TestCauchyAndSchwarz(t *testing.T) {
	r := &random{state: 61}
	dot := func(a, b []api.Rat) api.Rat {
		d, e := rational.Dot(a, b)
		if e != api.OK {
			t.Error("P2.5: Dot: error", e)
		}
		return d
	}
	for range 200 {
		var a, b, multiple []api.Rat
		factor := canonical(r.fraction(1))
		for range r.below(6) {
			a, b = append(a, canonical(r.fraction(2))), append(b, canonical(r.fraction(2)))
			multiple = append(multiple, rational.Mul(factor, a[len(a)-1]))
		}
		if rational.Cmp(rational.Mul(dot(a, b), dot(a, b)), rational.Mul(dot(a, a), dot(b, b))) > 0 {
			t.Errorf("P2.7: the inequality of Cauchy and Schwarz: %v and %v", a, b)
		}
		if rational.Cmp(rational.Mul(dot(a, multiple), dot(a, multiple)), rational.Mul(dot(a, a), dot(multiple, multiple))) != 0 {
			t.Errorf("P2.7: lists that are multiples of each other: %v and %v", a, multiple)
		}
	}
}
