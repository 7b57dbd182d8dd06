package rational_test

import (
	"fmt"
	"math"
	"math/big"
	"testing"

	"codewright/api"
	"codewright/rational"
)

// raised returns x to the power of n, for a small n.
func raised(x *big.Rat, n int) *big.Rat {
	if n < 0 {
		return raised(new(big.Rat).Inv(x), -n)
	}
	result := big.NewRat(1, 1)
	for range n {
		result.Mul(result, x)
	}
	return result
}

func TestPow(t *testing.T) {
	for _, x := range samples() {
		for _, a := range forms(x) {
			for n := -7; n <= 7; n++ {
				what := fmt.Sprintf("P2.3: Pow(%v, %d)", x, n)
				have, e := rational.Pow(a, n)
				if n < 0 && x.Sign() == 0 {
					refused(t, what, have, e, api.ErrZero)
					continue
				}
				right(t, what, have, e, raised(x, n))
			}
		}
	}
}

func TestPowOfAnyInt(t *testing.T) {
	for _, n := range []int{math.MinInt, math.MinInt + 1, -1 << 32, -5001, -5000, -1, 0, 1, 5000, 5001, 1 << 32, math.MaxInt - 1, math.MaxInt} {
		sign := fraction("1")
		if n%2 != 0 {
			sign = fraction("-1")
		}
		for _, a := range forms(fraction("1")) {
			have, e := rational.Pow(a, n)
			right(t, fmt.Sprint("P2.3: 1 to the power of ", n), have, e, fraction("1"))
		}
		for _, a := range forms(fraction("-1")) {
			have, e := rational.Pow(a, n)
			right(t, fmt.Sprint("P2.3: -1 to the power of ", n), have, e, sign)
		}
		for _, a := range forms(new(big.Rat)) {
			have, e := rational.Pow(a, n)
			what := fmt.Sprint("P2.3: 0 to the power of ", n)
			switch {
			case n < 0:
				refused(t, what, have, e, api.ErrZero)
			case n == 0:
				right(t, what, have, e, fraction("1"))
			default:
				right(t, what, have, e, new(big.Rat))
			}
		}
		if n >= -5001 && n <= 5001 {
			continue
		}
		for _, s := range []string{"2", "-2", "1/2", "-1/2", "3/2", "-2/3", "4294967296", "-1/4294967295"} {
			have, e := rational.Pow(of(s), n)
			refused(t, fmt.Sprint("P2.3: ", s, " to the power of ", n), have, e, api.ErrBig)
		}
	}
}

func TestPowAtTheLimit(t *testing.T) {
	for _, x := range []struct {
		text string
		most int
	}{{"2", 131071}, {"-2", 131071}, {"1/2", 131071}, {"-1/2", 131071}, {"2/3", 82697}, {"-3/2", 82697}, {"4/5", 56449}, {"4294967296/3", 4095}, {"4294967295", 4096}, {"1/4294967295", 4096}, {"-5/4294967296", 4095}} {
		want := new(big.Rat)
		top := fraction(x.text)
		exp := big.NewInt(int64(x.most))
		want.SetFrac(new(big.Int).Exp(top.Num(), exp, nil), new(big.Int).Exp(top.Denom(), exp, nil))
		have, e := rational.Pow(of(x.text), x.most)
		right(t, fmt.Sprintf("P2.3: %s to the power of %d", x.text, x.most), have, e, want)
		have, e = rational.Pow(of(x.text), -x.most)
		right(t, fmt.Sprintf("P2.3: %s to the power of %d", x.text, -x.most), have, e, want.Inv(want))
		for _, n := range []int{x.most + 1, -x.most - 1, x.most + 1000, 2 * x.most, -2 * x.most} {
			have, e = rational.Pow(of(x.text), n)
			refused(t, fmt.Sprintf("P2.3: %s to the power of %d", x.text, n), have, e, api.ErrBig)
		}
	}
}

// The limit is that of the power, not that of the form in which the argument comes.
func TestPowOfLongFractions(t *testing.T) {
	long := new(big.Int).Lsh(big.NewInt(3), 32*5000)
	for _, s := range []string{"2", "-2/3", "1"} {
		for _, n := range []int{-3, -1, 0, 1, 2} {
			have, e := rational.Pow(written(fraction(s), long, 1), n)
			right(t, fmt.Sprintf("P2.3: %s with a common factor, to the power of %d", s, n), have, e, raised(fraction(s), n))
		}
	}
	for _, a := range []api.Rat{{Num: limbs(long, 0)}, {Neg: true, Num: limbs(long, 1), Den: api.Nat{0}}, {Den: limbs(long, 0)}} {
		have, e := rational.Pow(a, -1)
		refused(t, "P2.3: a long form of 0", have, e, api.ErrZero)
		have, e = rational.Pow(a, math.MinInt)
		refused(t, "P2.3: a long form of 0", have, e, api.ErrZero)
		have, e = rational.Pow(a, 3)
		right(t, "P2.3: a long form of 0", have, e, new(big.Rat))
	}
	for _, a := range []api.Rat{{Num: limbs(long, 0), Den: api.Nat{5}}, {Neg: true, Num: api.Nat{5}, Den: limbs(long, 0)}} {
		for _, n := range []int{-2, -1, 1, 2} {
			have, e := rational.Pow(a, n)
			refused(t, "P2.3: a fraction that is itself too long", have, e, api.ErrBig)
		}
		have, e := rational.Pow(a, 0)
		right(t, "P2.3: a long fraction to the power of 0", have, e, fraction("1"))
	}
}
