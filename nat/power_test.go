package nat_test

import (
	"fmt"
	"math"
	"math/big"
	"testing"

	"codewright/api"
	"codewright/nat"
)

func TestPow(t *testing.T) {
	for i, x := range samples() {
		for n := range 12 {
			have, e := nat.Pow(loose(x, i%3), n)
			if e != api.OK {
				t.Errorf("P1.4: Pow(%v, %d): error %d", x, n, e)
			}
			same(t, fmt.Sprintf("P1.4: Pow(%v, %d)", x, n), have, new(big.Int).Exp(x, big.NewInt(int64(n)), nil))
		}
	}
	for _, n := range []int{100, 127, 128, 129, 1000, 4095} {
		have, e := nat.Pow(api.Nat{3, 0}, n)
		same(t, "P1.4: a power of 3", have, new(big.Int).Exp(big.NewInt(3), big.NewInt(int64(n)), nil))
		if e != api.OK {
			t.Error("P1.4: a power of 3:", n, e)
		}
	}
}

func TestPowOfAnyInt(t *testing.T) {
	long := loose(power(32*4096, 0), 1)
	for _, zero := range []api.Nat{nil, {}, {0}, {0, 0, 0}} {
		for _, n := range []int{1, 2, 5000, math.MaxInt} {
			have, e := nat.Pow(zero, n)
			refused(t, "P1.4: a power of 0", have, e, api.OK)
		}
	}
	for _, n := range []int{0, 1, 2, 5000, math.MaxInt - 1, math.MaxInt} {
		have, e := nat.Pow(api.Nat{1, 0, 0}, n)
		same(t, "P1.4: a power of 1", have, big.NewInt(1))
		if e != api.OK {
			t.Error("P1.4: a power of 1:", n, e)
		}
	}
	for _, a := range []api.Nat{nil, {}, {0, 0}, {1}, {2}, {0, 1}, long} {
		have, e := nat.Pow(a, 0)
		same(t, "P1.4: the power of 0", have, big.NewInt(1))
		if e != api.OK {
			t.Error("P1.4: the power of 0:", e)
		}
		for _, n := range []int{-1, -2, math.MinInt + 1, math.MinInt} {
			have, e := nat.Pow(a, n)
			refused(t, "P1.4: ErrRange comes ahead of ErrBig", have, e, api.ErrRange)
		}
	}
	for _, a := range []api.Nat{{2}, {3, 0}, {0, 1}, {1<<32 - 1}, long} {
		for _, n := range []int{131072, 1 << 32, 1 << 57, 1 << 58, 1 << 62, math.MaxInt - 1, math.MaxInt} {
			have, e := nat.Pow(a, n)
			refused(t, "P1.4: a power beyond the limit", have, e, api.ErrBig)
		}
	}
}

// TestPowAtTheLimit has the greatest exponents whose powers have at most MaxLimbs limbs.
func TestPowAtTheLimit(t *testing.T) {
	limit := power(32*4096, 0)
	if api.MaxLimbs != 4096 {
		t.Fatal("MaxLimbs is", api.MaxLimbs)
	}
	for _, x := range []*big.Int{
		big.NewInt(2), big.NewInt(3), big.NewInt(4), big.NewInt(5), big.NewInt(7), big.NewInt(10), big.NewInt(1<<31 + 1), power(32, -1), power(32, 0), power(32, 1),
		power(33, 0), power(63, 12345), power(1000, 77), power(65535, -1), power(65535, 1), power(65536, -1), power(65536, 0), power(131071, 0), power(131072, -1),
	} {
		n := int(float64(32*4096) * math.Ln2 / logarithm(x))
		most, top := 0, new(big.Int)
		for k := max(n-2, 1); k <= n+2; k++ {
			if p := new(big.Int).Exp(x, big.NewInt(int64(k)), nil); p.Cmp(limit) < 0 {
				most, top = k, p
			}
		}
		have, e := nat.Pow(loose(x, 2), most)
		if e != api.OK || value(have).Cmp(top) != 0 {
			t.Errorf("P1.4: the greatest power of a number of %d bits: %d limbs, error %d", x.BitLen(), len(have), e)
		}
		have, e = nat.Pow(loose(x, 2), most+1)
		refused(t, "P1.4: the power beyond it", have, e, api.ErrBig)
	}
	for _, x := range []*big.Int{power(131072, 0), power(131072, 1), power(200000, 0)} {
		for _, n := range []int{1, 2} {
			have, e := nat.Pow(loose(x, 0), n)
			refused(t, "P1.4: a number that is itself too long", have, e, api.ErrBig)
		}
	}
}

// logarithm returns the natural logarithm of x.
func logarithm(x *big.Int) float64 {
	exp := max(x.BitLen()-60, 0)
	lead, _ := new(big.Float).SetInt(new(big.Int).Rsh(x, uint(exp))).Float64()
	return math.Log(lead) + float64(exp)*math.Ln2
}

func TestBinomial(t *testing.T) {
	for n := range 70 {
		for k := -2; k <= n+2; k++ {
			want := big.NewInt(0)
			if k >= 0 {
				want.Binomial(int64(n), int64(k))
			}
			have, e := nat.Binomial(n, k)
			same(t, fmt.Sprintf("P1.5: Binomial(%d, %d)", n, k), have, want)
			if e != api.OK {
				t.Errorf("P1.5: Binomial(%d, %d): error %d", n, k, e)
			}
		}
	}
	for _, x := range [][2]int{{1000, 500}, {4095, 2047}, {4096, 0}, {4096, 1}, {4096, 77}, {4096, 2047}, {4096, 2048}, {4096, 2049}, {4096, 4095}, {4096, 4096}} {
		have, e := nat.Binomial(x[0], x[1])
		same(t, fmt.Sprint("P1.5: Binomial of ", x), have, new(big.Int).Binomial(int64(x[0]), int64(x[1])))
		if e != api.OK {
			t.Error("P1.5: Binomial of", x, e)
		}
	}
}

func TestBinomialOutside(t *testing.T) {
	for _, n := range []int{0, 1, 5, 4096} {
		for _, k := range []int{-1, math.MinInt, n + 1, 4097, math.MaxInt} {
			have, e := nat.Binomial(n, k)
			refused(t, "P1.5: no subset has k elements", have, e, api.OK)
		}
		if n < 5 {
			continue
		}
		have, e := nat.Binomial(5, 2)
		same(t, "P1.5: Binomial(5, 2)", have, big.NewInt(10))
		if e != api.OK {
			t.Error("P1.5: Binomial(5, 2):", e)
		}
	}
	for _, n := range []int{-1, math.MinInt, 4097, 5000, math.MaxInt} {
		for _, k := range []int{-1, 0, 1, 4096, 4097, math.MinInt, math.MaxInt} {
			have, e := nat.Binomial(n, k)
			refused(t, "P1.5: n outside its range", have, e, api.ErrRange)
		}
	}
}
