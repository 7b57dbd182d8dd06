package rational_test

import (
	"fmt"
	"math"
	"math/big"
	"testing"

	"codewright/api"
	"codewright/rational"
)

func TestForms(t *testing.T) {
	for _, x := range samples() {
		for _, a := range forms(x) {
			what := fmt.Sprintf("P2.1: %v", a)
			same(t, what+" trimmed", rational.Trim(a), x)
			same(t, what+" negated", rational.Neg(a), new(big.Rat).Neg(x))
			if have := rational.Sign(a); have != x.Sign() {
				t.Errorf("%s: sign %d", what, have)
			}
			if have := rational.Is(a); have != isCanonical(a) {
				t.Errorf("%s: canonical: %v", what, have)
			}
			if !rational.Is(rational.Trim(a)) || !rational.Is(rational.Neg(a)) {
				t.Errorf("%s: a result is not canonical", what)
			}
		}
	}
}

func TestIs(t *testing.T) {
	for _, a := range []api.Rat{{Den: api.Nat{1}}, {Num: api.Nat{}, Den: api.Nat{1}}, {Num: api.Nat{1}, Den: api.Nat{1}}, {Neg: true, Num: api.Nat{3}, Den: api.Nat{2}}, {Num: api.Nat{0, 1}, Den: api.Nat{1, 0, 1}}} {
		if !rational.Is(a) {
			t.Error("P2.1: canonical:", a)
		}
	}
	for _, a := range append(zeros(), []api.Rat{
		{Num: api.Nat{2}, Den: api.Nat{4}}, {Num: api.Nat{2}, Den: api.Nat{2}}, {Den: api.Nat{2}}, {Neg: true, Den: api.Nat{1}}, {Num: api.Nat{1}}, {Num: api.Nat{1}, Den: api.Nat{0}},
		{Num: api.Nat{1, 0}, Den: api.Nat{1}}, {Num: api.Nat{1}, Den: api.Nat{1, 0}}, {Num: api.Nat{0}, Den: api.Nat{1}}, {Num: api.Nat{0, 5}, Den: api.Nat{0, 7}}, {Num: api.Nat{1}, Den: api.Nat{}},
	}...) {
		if rational.Is(a) {
			t.Errorf("P2.1: not canonical: %v", a)
		}
	}
}

func TestOf(t *testing.T) {
	ints := []int{0, 1, -1, 2, -3, 4, 6, -4, 12, 1 << 31, 1<<32 - 1, -1 << 32, 3 << 40, math.MaxInt, math.MaxInt - 1, -math.MaxInt, math.MinInt, math.MinInt + 2}
	for _, num := range ints {
		for _, den := range ints {
			have, e := rational.Of(num, den)
			what := fmt.Sprintf("P2.1: Of(%d, %d)", num, den)
			if den == 0 {
				refused(t, what, have, e, api.ErrZero)
				continue
			}
			right(t, what, have, e, new(big.Rat).SetFrac(big.NewInt(int64(num)), big.NewInt(int64(den))))
		}
	}
}

func TestRatio(t *testing.T) {
	r := &random{state: 37}
	for i := range 300 {
		num, den, common := r.positive(4), r.positive(4), r.positive(3)
		x := new(big.Rat).SetFrac(num, den)
		have, e := rational.Ratio(limbs(num.Mul(num, common), i%3), limbs(den.Mul(den, common), 2-i%3))
		right(t, "P2.1: Ratio", have, e, x)
	}
	for _, zero := range []api.Nat{nil, {}, {0}, {0, 0}} {
		for _, num := range []api.Nat{nil, {0}, {5}, {0, 1, 0}} {
			have, e := rational.Ratio(num, zero)
			refused(t, "P2.1: Ratio of anything and 0", have, e, api.ErrZero)
		}
		have, e := rational.Ratio(zero, api.Nat{6, 0})
		right(t, "P2.1: Ratio of 0 and 6", have, e, new(big.Rat))
	}
}

func TestPairs(t *testing.T) {
	list := samples()
	for i, x := range list {
		for j, y := range list {
			left, others := forms(x), forms(y)
			for k, b := range others {
				a := left[(i+j+k)%len(left)]
				what := fmt.Sprintf("P2.2: %v and %v: ", x, y)
				same(t, what+"Add", rational.Add(a, b), new(big.Rat).Add(x, y))
				same(t, what+"Sub", rational.Sub(a, b), new(big.Rat).Sub(x, y))
				same(t, what+"Mul", rational.Mul(a, b), new(big.Rat).Mul(x, y))
				if have := rational.Cmp(a, b); have != x.Cmp(y) {
					t.Errorf("%sCmp: %d", what, have)
				}
				have, e := rational.Div(a, b)
				if y.Sign() == 0 {
					refused(t, what+"Div", have, e, api.ErrZero)
					continue
				}
				right(t, what+"Div", have, e, new(big.Rat).Quo(x, y))
			}
		}
	}
}

func TestSumsOfAnyNumber(t *testing.T) {
	same(t, "P2.2: Add of none", rational.Add(), new(big.Rat))
	same(t, "P2.2: Mul of none", rational.Mul(), fraction("1"))
	for _, x := range samples() {
		for _, a := range forms(x) {
			same(t, "P2.2: Add of one", rational.Add(a), x)
			same(t, "P2.2: Mul of one", rational.Mul(a), x)
		}
	}
	r := &random{state: 41}
	for n := range 30 {
		var terms, factors []api.Rat
		sum, product := new(big.Rat), fraction("1")
		for range n {
			x, y := r.fraction(2), r.fraction(2)
			if y.Sign() == 0 {
				y = fraction("-7/3")
			}
			terms = append(terms, forms(x)[r.below(4)])
			factors = append(factors, forms(y)[r.below(4)])
			sum.Add(sum, x)
			product.Mul(product, y)
		}
		what := fmt.Sprintf(" of %d", n)
		same(t, "P2.2: Add"+what, rational.Add(terms...), sum)
		same(t, "P2.2: Mul"+what, rational.Mul(factors...), product)
		for _, zero := range zeros() {
			same(t, "P2.2: Add of 0 and"+what, rational.Add(append(terms, zero)...), sum)
			same(t, "P2.2: Mul of 0 and"+what, rational.Mul(append(factors, zero)...), new(big.Rat))
		}
	}
}

func TestFloorAndWhole(t *testing.T) {
	list := samples()
	for num := int64(-12); num <= 12; num++ {
		for den := int64(1); den <= 6; den++ {
			list = append(list, big.NewRat(num, den))
		}
	}
	for _, x := range list {
		// The division of big.Int that leaves a remainder of at least 0.
		floor := new(big.Int).Div(x.Num(), x.Denom())
		for _, a := range forms(x) {
			same(t, fmt.Sprintf("P2.4: Floor of %v", x), rational.Floor(a), new(big.Rat).SetInt(floor))
			n, ok := rational.Whole(a)
			if want := x.IsInt() && x.Sign() >= 0; ok != want {
				t.Errorf("P2.4: Whole of %v: %v", x, ok)
			}
			if !ok && len(n) != 0 || ok && integer(n).Cmp(x.Num()) != 0 || len(n) > 0 && n[len(n)-1] == 0 {
				t.Errorf("P2.4: Whole of %v: %v", x, n)
			}
		}
	}
}

func TestDot(t *testing.T) {
	r := &random{state: 43}
	for n := range 12 {
		var a, b []api.Rat
		sum := new(big.Rat)
		for range n {
			x, y := r.fraction(2), r.fraction(2)
			a, b = append(a, forms(x)[r.below(4)]), append(b, forms(y)[r.below(4)])
			sum.Add(sum, new(big.Rat).Mul(x, y))
		}
		have, e := rational.Dot(a, b)
		right(t, "P2.5: Dot", have, e, sum)
		for _, other := range [][]api.Rat{append(b, of("0")), append(b, of("1"), of("2"))} {
			have, e = rational.Dot(a, other)
			refused(t, "P2.5: Dot of unlike lengths", have, e, api.ErrShape)
			have, e = rational.Dot(other, a)
			refused(t, "P2.5: Dot of unlike lengths", have, e, api.ErrShape)
		}
	}
	for _, list := range [][]api.Rat{nil, {}} {
		have, e := rational.Dot(list, []api.Rat{})
		right(t, "P2.5: Dot of empty lists", have, e, new(big.Rat))
		have, e = rational.Dot(list, []api.Rat{{}})
		refused(t, "P2.5: Dot of an empty list and another", have, e, api.ErrShape)
	}
	have, e := rational.Dot([]api.Rat{{Num: api.Nat{5}}, of("2")}, []api.Rat{of("3"), of("-1/2")})
	right(t, "P2.5: Dot with an entry whose denominator is 0", have, e, fraction("-1"))
}

func TestArgumentsAreKept(t *testing.T) {
	parts := func(list ...api.Rat) []api.Nat {
		var all []api.Nat
		for _, a := range list {
			all = append(all, a.Num, a.Den)
		}
		return all
	}
	first := func(a api.Rat, _ api.Errno) api.Rat { return a }
	calls := map[string]func(args []api.Rat) []api.Nat{
		"Trim":  func(args []api.Rat) []api.Nat { return parts(rational.Trim(args[0])) },
		"Neg":   func(args []api.Rat) []api.Nat { return parts(rational.Neg(args[0])) },
		"Of":    func([]api.Rat) []api.Nat { return parts(first(rational.Of(0, 3)), first(rational.Of(6, 6))) },
		"Ratio": func(args []api.Rat) []api.Nat { return parts(first(rational.Ratio(args[0].Num, args[1].Den))) },
		"none":  func([]api.Rat) []api.Nat { return parts(rational.Add(), rational.Mul()) },
		"one":   func(args []api.Rat) []api.Nat { return parts(rational.Add(args[0]), rational.Mul(args[0])) },
		"Add":   func(args []api.Rat) []api.Nat { return parts(rational.Add(args...)) },
		"Sub":   func(args []api.Rat) []api.Nat { return parts(rational.Sub(args[0], args[1])) },
		"Mul":   func(args []api.Rat) []api.Nat { return parts(rational.Mul(args...)) },
		"Div":   func(args []api.Rat) []api.Nat { return parts(first(rational.Div(args[0], args[1]))) },
		"Pow0":  func(args []api.Rat) []api.Nat { return parts(first(rational.Pow(args[0], 0))) },
		"Pow1":  func(args []api.Rat) []api.Nat { return parts(first(rational.Pow(args[0], 1))) },
		"Pow-1": func(args []api.Rat) []api.Nat { return parts(first(rational.Pow(args[0], -1))) },
		"Pow4":  func(args []api.Rat) []api.Nat { return parts(first(rational.Pow(args[0], 4))) },
		"Floor": func(args []api.Rat) []api.Nat { return parts(rational.Floor(args[0])) },
		"Dot":   func(args []api.Rat) []api.Nat { return parts(first(rational.Dot(args, args))) },
		"Parse": func([]api.Rat) []api.Nat { return parts(first(rational.Parse("0")), first(rational.Parse("-5/7"))) },
		"Whole": func(args []api.Rat) []api.Nat {
			n, _ := rational.Whole(args[0])
			return []api.Nat{n}
		},
		"ints": func(args []api.Rat) []api.Nat {
			n := rational.Sign(args[0]) + 3*rational.Cmp(args[0], args[1]) + 9*len(rational.Text(args[0]))
			if rational.Is(args[1]) {
				n++
			}
			return []api.Nat{{uint32(n)}}
		},
	}
	for name, call := range calls {
		for _, x := range samples() {
			for _, s := range []string{"0", "1", "-3", "5/4", "-18446744073709551616/3"} {
				kept(t, name, call, x, fraction(s))
				kept(t, name, call, fraction(s), x, fraction("2/9"))
			}
		}
	}
}

func TestExampleFractions(t *testing.T) {
	a, e := rational.Of(6, -4)
	if e != api.OK || !a.Neg || len(a.Num) != 1 || a.Num[0] != 3 || len(a.Den) != 1 || a.Den[0] != 2 || rational.Text(a) != "-3/2" {
		t.Error("Of(6, -4):", a, e)
	}
	same(t, "the floor of -3/2", rational.Floor(a), fraction("-2"))
	square, e := rational.Pow(a, -2)
	right(t, "the power -2 of -3/2", square, e, fraction("4/9"))
	same(t, "1/6 and 1/3", rational.Add(of("1/6"), of("1/3")), fraction("1/2"))
	if rational.Sign(api.Rat{Num: api.Nat{5}}) != 0 || rational.Text(api.Rat{Num: api.Nat{5}}) != "0" {
		t.Error("a fraction whose denominator is 0 has the value 0")
	}
}
