package number_test

import (
	"math"
	"testing"

	"codewright/api"
	"codewright/number"
)

func TestLawsOfDivisors(t *testing.T) {
	r := &random{state: 5}
	for range 300 {
		a, b := 1+r.below(40000), 1+r.below(40000)
		powers, _ := number.Factor(a * b)
		for _, power := range powers {
			if a%power.Prime != 0 && b%power.Prime != 0 {
				t.Errorf("P3.7: %d divides the product of %d and %d alone", power.Prime, a, b)
			}
		}
	}
	for range 3000 {
		d := 1 + r.below(2000)
		a, b := d*r.below(1000), d*(r.below(2000)-1000)
		if greatest, e := number.Gcd(a, b); e != api.OK || greatest%d != 0 {
			t.Errorf("P3.7: %d divides %d and %d, but not %d", d, a, b, greatest)
		}
	}
}

func TestLawsOfPhi(t *testing.T) {
	for n := 1; n <= 2000; n++ {
		divisors, _ := number.Divisors(n)
		phis, moebius := 0, 0
		for _, d := range divisors {
			phi, _ := number.Phi(d)
			sign, _ := number.Moebius(d)
			phis += phi
			moebius += sign
		}
		want := 0
		if n == 1 {
			want = 1
		}
		if phis != n || moebius != want {
			t.Errorf("P3.7: the sums over the divisors of %d are %d and %d", n, phis, moebius)
		}
	}
	r := &random{state: 6}
	for range 2000 {
		a, n := r.signed(), r.positive()
		phi, _ := number.Phi(n)
		order, e := number.Order(a, n)
		if e != api.OK {
			continue
		}
		if p, _ := number.Power(a, phi, n); p != 1%n || phi%order != 0 {
			t.Errorf("P3.7: Power(%d, %d, %d) is %d, the order is %d", a, phi, n, p, order)
		}
	}
}

func TestLawOfPascal(t *testing.T) {
	choose := func(n, k int) int {
		c, e := number.Choose(n, k, math.MaxInt)
		if e != api.OK {
			t.Errorf("P3.6: Choose(%d, %d): error %d", n, k, e)
		}
		return c
	}
	for n := range 66 {
		for k := range n + 3 {
			if choose(n, k)+choose(n, k+1) != choose(n+1, k+1) {
				t.Errorf("P3.7: Pascal's rule for %d and %d", n, k)
			}
		}
	}
}

func TestExamples(t *testing.T) {
	if powers, _ := number.Factor(360); len(powers) != 3 || powers[0] != (api.Power{Prime: 2, Exp: 3}) || powers[1] != (api.Power{Prime: 3, Exp: 2}) || powers[2] != (api.Power{Prime: 5, Exp: 1}) {
		t.Error("P3.1: Factor(360):", powers)
	}
	if p, m, e := number.PrimePower(243); p != 3 || m != 5 || e != api.OK {
		t.Error("P3.1: PrimePower(243):", p, m, e)
	}
	if g, x, y, e := number.Bezout(12, 18); g != 6 || x != 2 || y != -1 || e != api.OK {
		t.Error("P3.2: Bezout(12, 18):", g, x, y, e)
	}
	if x, product, e := number.Chinese([]int{2, 3}, []int{3, 5}); x != 8 || product != 15 || e != api.OK {
		t.Error("P3.5: Chinese([2 3], [3 5]):", x, product, e)
	}
	first := func(n int, e api.Errno) int {
		if e != api.OK {
			return -int(e)
		}
		return n
	}
	for name, x := range map[string]struct{ have, want int }{
		"Inverse(3, 7)":      {first(number.Inverse(3, 7)), 5},
		"Power(3, 5, 7)":     {first(number.Power(3, 5, 7)), 5},
		"Order(2, 7)":        {first(number.Order(2, 7)), 3},
		"Phi(36)":            {first(number.Phi(36)), 12},
		"Moebius(30)":        {first(number.Moebius(30)), -1},
		"Moebius(12)":        {first(number.Moebius(12)), 0},
		"Exp(2, 16, 65536)":  {first(number.Exp(2, 16, 65536)), 65536},
		"Exp(2, 17, 65536)":  {first(number.Exp(2, 17, 65536)), -int(api.ErrBig)},
		"Choose(5, 2, 100)":  {first(number.Choose(5, 2, 100)), 10},
		"Product(10)":        {first(number.Product(10)), 1},
		"Chinese([], [])":    {first(func() (int, api.Errno) { _, n, e := number.Chinese(nil, nil); return n, e }()), 1},
		"Choose(0, 0, 1)":    {first(number.Choose(0, 0, 1)), 1},
		"Choose(0, 0, 0)":    {first(number.Choose(0, 0, 0)), -int(api.ErrBig)},
		"Product(0)":         {first(number.Product(0)), -int(api.ErrBig)},
		"Product(0, 0)":      {first(number.Product(0, 0)), 0},
		"Exp(0, 0, 0)":       {first(number.Exp(0, 0, 0)), -int(api.ErrBig)},
		"Exp(0, 1, 0)":       {first(number.Exp(0, 1, 0)), 0},
		"Order(3, 7)":        {first(number.Order(3, 7)), 6},
		"Inverse(-4, 7)":     {first(number.Inverse(-4, 7)), 5},
		"Power(-2, 3, 7)":    {first(number.Power(-2, 3, 7)), 6},
		"Gcd(0, 0)":          {first(number.Gcd(0, 0)), 0},
		"Gcd(-12, 18)":       {first(number.Gcd(-12, 18)), 6},
		"Choose(3, 4, 0)":    {first(number.Choose(3, 4, 0)), 0},
		"Choose(2^62, 1, ∞)": {first(number.Choose(1<<62, 1, math.MaxInt)), 1 << 62},
	} {
		if x.have != x.want {
			t.Errorf("%s: have %d, want %d", name, x.have, x.want)
		}
	}
}
