package number_test

import (
	"fmt"
	"math"
	"math/big"
	"testing"

	"codewright/api"
	"codewright/number"
)

// mosts returns bounds around the number n, as far as there are any.
func mosts(n *big.Int) []int {
	list := []int{0, 1, 2, 3, 100, 65536, 1 << 62, math.MaxInt}
	if n.IsInt64() {
		exact := int(n.Int64())
		list = append(list, exact)
		if exact > 0 {
			list = append(list, exact-1)
		}
		if exact < math.MaxInt {
			list = append(list, exact+1)
		}
	}
	return list
}

// bounded compares what f returns for several bounds with the exact number.
func bounded(t *testing.T, what string, exact *big.Int, f func(most int) (int, api.Errno)) {
	t.Helper()
	for _, most := range mosts(exact) {
		have, e := f(most)
		name := fmt.Sprintf("P3.6: %s, at most %d", what, most)
		if exact.Cmp(whole(most)) > 0 {
			refused(t, name, e, api.ErrBig, have)
		} else {
			right(t, name, have, e, int(exact.Int64()))
		}
	}
}

func TestProduct(t *testing.T) {
	try := func(l ...int) {
		t.Helper()
		exact := big.NewInt(1)
		for _, x := range l {
			exact.Mul(exact, whole(x))
		}
		bounded(t, fmt.Sprintf("Product(%v)", l), exact, func(most int) (int, api.Errno) { return number.Product(most, l...) })
	}
	try()
	for _, l := range [][]int{
		{0}, {1}, {7}, {math.MaxInt}, {1, 1, 1}, {2, 3, 5}, {0, 0}, {0, math.MaxInt, math.MaxInt}, {math.MaxInt, math.MaxInt, 0}, {1 << 62, 1 << 62, 0, 1 << 62}, {1 << 31, 1 << 31}, {1 << 32, 1 << 31},
		{1 << 32, 1 << 32}, {3037000499, 3037000499}, {3037000500, 3037000500}, {math.MaxInt, 1}, {1, math.MaxInt}, {math.MaxInt, 2}, {1 << 62, 2}, {1 << 62, 4}, {7, 7, 73, 127, 337, 92737, 649657},
	} {
		try(l...)
	}
	r := &random{state: 4}
	for range 3000 {
		var l []int
		for range r.below(7) {
			l = append(l, r.below(1+r.positive()))
		}
		try(l...)
	}
}

func TestProductErrors(t *testing.T) {
	for _, x := range []struct {
		most int
		l    []int
	}{
		{-1, nil}, {-1, []int{0}}, {math.MinInt, []int{2, 3}}, {5, []int{-1}}, {5, []int{0, -1}}, {5, []int{-1, 0}}, {5, []int{-1, -1}}, {5, []int{2, 3, math.MinInt}}, {5, []int{math.MaxInt, math.MaxInt, -1}}, {-1, []int{-1}},
	} {
		have, e := number.Product(x.most, x.l...)
		refused(t, fmt.Sprintf("P3.6: Product(%d, %v)", x.most, x.l), e, api.ErrRange, have)
	}
}

func TestExp(t *testing.T) {
	try := func(q, k int) {
		t.Helper()
		exact := new(big.Int).Exp(whole(q), whole(k), nil)
		bounded(t, fmt.Sprintf("Exp(%d, %d)", q, k), exact, func(most int) (int, api.Errno) { return number.Exp(q, k, most) })
	}
	for q := range 20 {
		for k := range 70 {
			try(q, k)
		}
	}
	for _, q := range []int{31, 256, 65535, 65536, 65537, 2097151, 2097152, 3037000499, 3037000500, 1 << 31, 1 << 32, 1 << 62, math.MaxInt} {
		for k := range 10 {
			try(q, k)
		}
	}
	for _, k := range []int{1 << 31, 1 << 62, math.MaxInt} {
		for _, most := range []int{0, 1, 5, math.MaxInt} {
			have, e := number.Exp(0, k, most)
			right(t, "P3.6: a high power of 0", have, e, 0)
			have, e = number.Exp(1, k, most)
			if most == 0 {
				refused(t, "P3.6: a high power of 1", e, api.ErrBig, have)
			} else {
				right(t, "P3.6: a high power of 1", have, e, 1)
			}
			for _, q := range []int{2, 3, math.MaxInt} {
				have, e = number.Exp(q, k, most)
				refused(t, "P3.6: a high power", e, api.ErrBig, have)
			}
		}
	}
}

func TestChoose(t *testing.T) {
	try := func(n, k int) {
		t.Helper()
		exact := big.NewInt(0)
		if k <= n {
			exact.Binomial(int64(n), int64(min(k, n-k)))
		}
		bounded(t, fmt.Sprintf("Choose(%d, %d)", n, k), exact, func(most int) (int, api.Errno) { return number.Choose(n, k, most) })
	}
	for n := range 75 {
		for k := range n + 3 {
			try(n, k)
		}
	}
	for _, n := range []int{1000, 65536, 1<<31 - 1, 1 << 31, 1 << 32, 1 << 62, math.MaxInt - 1, math.MaxInt} {
		for k := range 9 {
			try(n, k)
			try(n, n-k)
		}
	}
	for _, most := range []int{0, 1, 65536, math.MaxInt} {
		for _, k := range []int{1 << 20, 1 << 40, 1 << 61, 1<<62 - 100} {
			have, e := number.Choose(1<<62, k, most)
			refused(t, "P3.6: a number of many subsets", e, api.ErrBig, have)
		}
		have, e := number.Choose(1<<62, math.MaxInt, most)
		right(t, "P3.6: no subsets", have, e, 0)
	}
}

func TestExponentsOutOfRange(t *testing.T) {
	for _, x := range [][3]int{
		{-1, 2, 5}, {2, -1, 5}, {2, 3, -1}, {0, 0, -1}, {0, 1, -1}, {1, 1, -1}, {-1, 0, 5}, {0, -1, 5}, {3, 4, -1}, {math.MinInt, 1, 1}, {1, math.MinInt, 1}, {1, 1, math.MinInt}, {-1, -1, -1}, {-5, -2, 100},
	} {
		have, e := number.Exp(x[0], x[1], x[2])
		refused(t, fmt.Sprintf("P3.6: Exp(%d, %d, %d)", x[0], x[1], x[2]), e, api.ErrRange, have)
		have, e = number.Choose(x[0], x[1], x[2])
		refused(t, fmt.Sprintf("P3.6: Choose(%d, %d, %d)", x[0], x[1], x[2]), e, api.ErrRange, have)
	}
}
