package nat_test

import (
	"slices"
	"testing"

	"codewright/api"
	"codewright/nat"
)

func TestLawsOfSumsAndProducts(t *testing.T) {
	r := &random{state: 23}
	equal := func(law string, a, b api.Nat) {
		t.Helper()
		if !slices.Equal(a, b) {
			t.Errorf("P1.7: %s: %v and %v", law, a, b)
		}
	}
	for range 3000 {
		a, b, c := loose(r.number(1+r.below(6)), 1), loose(r.number(1+r.below(6)), 0), loose(r.number(1+r.below(6)), 2)
		equal("sums commute", nat.Add(a, b), nat.Add(b, a))
		equal("products commute", nat.Mul(a, b), nat.Mul(b, a))
		equal("sums associate", nat.Add(nat.Add(a, b), c), nat.Add(a, nat.Add(b, c)))
		equal("a sum of three", nat.Add(a, b, c), nat.Add(a, nat.Add(b, c)))
		equal("products associate", nat.Mul(nat.Mul(a, b), c), nat.Mul(a, nat.Mul(b, c)))
		equal("a product of three", nat.Mul(a, b, c), nat.Mul(a, nat.Mul(b, c)))
		equal("products distribute", nat.Mul(a, nat.Add(b, c)), nat.Add(nat.Mul(a, b), nat.Mul(a, c)))
		less := nat.Cmp(a, b)
		if nat.Cmp(b, a) != -less || nat.Cmp(nat.Add(a, c), nat.Add(b, c)) != less {
			t.Errorf("P1.7: the order and sums: %v %v %v", a, b, c)
		}
		if nat.Bits(c) > 0 && nat.Cmp(nat.Mul(a, c), nat.Mul(b, c)) != less {
			t.Errorf("P1.7: the order and products: %v %v %v", a, b, c)
		}
		if less <= 0 && nat.Cmp(b, c) <= 0 && nat.Cmp(a, c) > 0 {
			t.Errorf("P1.7: the order is not transitive: %v %v %v", a, b, c)
		}
	}
}

func TestLawsOfDivisors(t *testing.T) {
	r := &random{state: 29}
	divides := func(d, a api.Nat) bool {
		_, rem, e := nat.DivMod(a, d)
		return e == api.OK && len(rem) == 0
	}
	for range 1000 {
		common := nat.Add(loose(r.number(1+r.below(4)), 1), api.Nat{1})
		a := nat.Mul(common, loose(r.number(1+r.below(5)), 0), api.Nat{1})
		b := nat.Add(nat.Mul(common, loose(r.number(1+r.below(5)), 0)), common)
		greatest := nat.Gcd(a, b)
		if !divides(greatest, a) || !divides(greatest, b) || !divides(common, greatest) {
			t.Errorf("P1.7: the greatest common divisor of %v and %v is %v", a, b, greatest)
		}
		quo, rem, _ := nat.DivMod(a, common)
		if !slices.Equal(nat.Add(nat.Mul(quo, common), rem), a) || nat.Cmp(rem, common) >= 0 {
			t.Errorf("P1.3: %v divided by %v", a, common)
		}
	}
}

func TestLawsOfPowersAndChoices(t *testing.T) {
	r := &random{state: 31}
	pow := func(a api.Nat, n int) api.Nat {
		p, e := nat.Pow(a, n)
		if e != api.OK {
			t.Errorf("P1.4: Pow(%v, %d): error %d", a, n, e)
		}
		return p
	}
	for range 300 {
		a, m, n := loose(r.number(1+r.below(3)), 1), r.below(40), r.below(40)
		if !slices.Equal(pow(a, m+n), nat.Mul(pow(a, m), pow(a, n))) {
			t.Errorf("P1.7: powers of %v add their exponents %d and %d", a, m, n)
		}
	}
	choose := func(n, k int) api.Nat {
		c, e := nat.Binomial(n, k)
		if e != api.OK {
			t.Errorf("P1.5: Binomial(%d, %d): error %d", n, k, e)
		}
		return c
	}
	for range 300 {
		n, k := r.below(4096), r.below(4100)-2
		if !slices.Equal(choose(n+1, k+1), nat.Add(choose(n, k), choose(n, k+1))) {
			t.Errorf("P1.7: Pascal's rule for %d and %d", n, k)
		}
	}
	for range 30 {
		m, n, k := r.below(60), r.below(60), r.below(120)
		var terms []api.Nat
		for i := range k + 1 {
			terms = append(terms, nat.Mul(choose(m, i), choose(n, k-i)))
		}
		if !slices.Equal(choose(m+n, k), nat.Add(terms...)) {
			t.Errorf("P1.7: Vandermonde's identity for %d, %d and %d", m, n, k)
		}
	}
}
