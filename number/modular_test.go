package number_test

import (
	"fmt"
	"math"
	"math/big"
	"testing"

	"codewright/api"
	"codewright/number"
)

// gcd compares Gcd and Bezout with what the document says of them.
func gcd(t *testing.T, a, b int) {
	t.Helper()
	want := common(max(a, -a), max(b, -b))
	have, e := number.Gcd(a, b)
	right(t, fmt.Sprintf("P3.2: Gcd(%d, %d)", a, b), have, e, want)
	have, x, y, e := number.Bezout(a, b)
	right(t, fmt.Sprintf("P3.2: Bezout(%d, %d)", a, b), have, e, want)
	if a*x+b*y != want {
		t.Errorf("P3.2: Bezout(%d, %d): %d and %d lead to %d", a, b, x, y, a*x+b*y)
	}
	if b != 0 && (x < 0 || x >= max(b, -b)/want) {
		t.Errorf("P3.2: Bezout(%d, %d): x is %d", a, b, x)
	}
	if b == 0 && (y != 0 || x != min(max(a, -1), 1)) {
		t.Errorf("P3.2: Bezout(%d, 0): x is %d, y is %d", a, x, y)
	}
}

func TestGcdAndBezout(t *testing.T) {
	for a := -45; a <= 45; a++ {
		for b := -45; b <= 45; b++ {
			gcd(t, a, b)
		}
	}
	ends := []int{-api.MaxNumber, 1 - api.MaxNumber, -1 << 30, -2, -1, 0, 1, 2, 1 << 30, api.MaxNumber - 1, api.MaxNumber}
	for _, a := range ends {
		for _, b := range ends {
			gcd(t, a, b)
		}
	}
	r := &random{state: 2}
	for range 20000 {
		gcd(t, r.signed(), r.signed())
	}
	// Euclid's algorithm takes the most steps for Fibonacci numbers.
	for a, b := 1, 1; b <= api.MaxNumber; a, b = b, a+b {
		gcd(t, a, b)
		gcd(t, -b, a)
	}
}

func TestGcdOutOfRange(t *testing.T) {
	try := func(a, b int) {
		t.Helper()
		have, e := number.Gcd(a, b)
		refused(t, fmt.Sprintf("P3.2: Gcd(%d, %d)", a, b), e, api.ErrRange, have)
		have, x, y, e := number.Bezout(a, b)
		refused(t, fmt.Sprintf("P3.2: Bezout(%d, %d)", a, b), e, api.ErrRange, have, x, y)
	}
	for _, n := range []int{math.MinInt, -1 << 32, -api.MaxNumber - 1, api.MaxNumber + 1, 1 << 32, math.MaxInt} {
		for _, other := range []int{0, 1, -6, api.MaxNumber, n} {
			try(n, other)
			try(other, n)
		}
	}
}

// modular compares Inverse and Order with a search, and Power with its definition, for a small n.
func modular(t *testing.T, a, n int) {
	t.Helper()
	rem := int(new(big.Int).Mod(whole(a), whole(n)).Int64())
	what := func(name string) string { return fmt.Sprintf("P3.3: %s(%d, %d)", name, a, n) }
	inverse, e := number.Inverse(a, n)
	if common(rem, n) != 1 {
		refused(t, what("Inverse"), e, api.ErrNone, inverse)
		order, e := number.Order(a, n)
		refused(t, what("Order"), e, api.ErrNone, order)
	} else {
		want := 0
		for rem*want%n != 1%n {
			want++
		}
		right(t, what("Inverse"), inverse, e, want)
		want = 1
		for p := rem % n; p != 1%n; p = p * rem % n {
			want++
		}
		order, e := number.Order(a, n)
		right(t, what("Order"), order, e, want)
	}
	product := 1 % n
	for exp := range 12 {
		have, e := number.Power(a, exp, n)
		right(t, what("Power")+fmt.Sprint(" with the exponent ", exp), have, e, product)
		product = product * rem % n
	}
}

func TestSmallModuli(t *testing.T) {
	for n := 1; n <= 75; n++ {
		for a := -80; a <= 80; a++ {
			modular(t, a, n)
		}
		for _, a := range edges() {
			modular(t, a, n)
		}
	}
	for _, a := range append(edges(), 0, 1, 2, -1) {
		have, e := number.Inverse(a, 1)
		right(t, "P3.3: Inverse modulo 1", have, e, 0)
		have, e = number.Order(a, 1)
		right(t, "P3.3: Order modulo 1", have, e, 1)
		have, e = number.Power(a, 0, 1)
		right(t, "P3.3: Power modulo 1", have, e, 0)
	}
}

func TestLargeModuli(t *testing.T) {
	r := &random{state: 3}
	try := func(a, n, exp int) {
		t.Helper()
		what := func(name string) string { return fmt.Sprintf("P3.3: %s(%d, %d)", name, a, n) }
		want := new(big.Int).Exp(new(big.Int).Mod(whole(a), whole(n)), whole(exp), whole(n))
		have, e := number.Power(a, exp, n)
		right(t, what("Power")+fmt.Sprint(" with the exponent ", exp), have, e, int(want.Int64()))
		inverse, e := number.Inverse(a, n)
		order, failed := number.Order(a, n)
		if want := new(big.Int).ModInverse(whole(a), whole(n)); n > 1 && want != nil {
			right(t, what("Inverse"), inverse, e, int(want.Int64()))
			least(t, a, n, order, failed)
		} else if n > 1 {
			refused(t, what("Inverse"), e, api.ErrNone, inverse)
			refused(t, what("Order"), failed, api.ErrNone, order)
		}
	}
	for _, n := range large() {
		for _, a := range append(edges(), 2, 3, 5, -1, n-1, n+1) {
			try(a, n, r.positive())
			try(a, n, math.MaxInt)
		}
	}
	for range 500 {
		try(r.signed(), r.positive(), r.below(math.MaxInt))
	}
}

// least reports an error unless order is the least exponent for which the power of a is 1 modulo n.
func least(t *testing.T, a, n, order int, e api.Errno) {
	t.Helper()
	isOne := func(exp int) bool {
		p := new(big.Int).Exp(new(big.Int).Mod(whole(a), whole(n)), whole(exp), whole(n))
		return p.Cmp(big.NewInt(1)) == 0
	}
	if e != api.OK || order < 1 || !isOne(order) {
		t.Errorf("P3.3: Order(%d, %d): have %d and error %d", a, n, order, e)
		return
	}
	for _, power := range check(t, order) {
		if isOne(order / power.Prime) {
			t.Errorf("P3.3: Order(%d, %d): %d is not the least one", a, n, order)
		}
	}
}

func TestModuliOutOfRange(t *testing.T) {
	for _, n := range notPositive() {
		for _, a := range []int{0, 1, 3, -5, math.MinInt, math.MaxInt} {
			have, e := number.Inverse(a, n)
			refused(t, fmt.Sprintf("P3.3: Inverse(%d, %d)", a, n), e, api.ErrRange, have)
			have, e = number.Order(a, n)
			refused(t, fmt.Sprintf("P3.3: Order(%d, %d)", a, n), e, api.ErrRange, have)
			for _, exp := range []int{-1, 0, 1, 5} {
				have, e = number.Power(a, exp, n)
				refused(t, fmt.Sprintf("P3.3: Power(%d, %d, %d)", a, exp, n), e, api.ErrRange, have)
			}
		}
	}
	for _, exp := range []int{-1, -2, -api.MaxNumber, math.MinInt} {
		for _, n := range []int{1, 2, 7, api.MaxNumber} {
			have, e := number.Power(3, exp, n)
			refused(t, fmt.Sprintf("P3.3: Power(3, %d, %d)", exp, n), e, api.ErrRange, have)
		}
	}
}

// chinese reports an error unless Chinese returns the least number with the remainders.
func chinese(t *testing.T, remainders, moduli []int) {
	t.Helper()
	product := 1
	for _, n := range moduli {
		product *= n
	}
	x, have, e := number.Chinese(remainders, moduli)
	what := fmt.Sprintf("P3.5: Chinese(%v, %v)", remainders, moduli)
	right(t, what, have, e, product)
	if x < 0 || x >= product {
		t.Errorf("%s: %d is not from 0 to %d", what, x, product-1)
	}
	for i, n := range moduli {
		rest := new(big.Int).Sub(whole(x), whole(remainders[i]))
		if rest.Rem(rest, whole(n)).Sign() != 0 {
			t.Errorf("%s: %d has another remainder modulo %d", what, x, n)
		}
	}
}

func TestChinese(t *testing.T) {
	for _, moduli := range [][]int{
		nil, {}, {1}, {1, 1, 1}, {2}, {3, 5}, {5, 3}, {3, 7}, {4, 9, 25, 7}, {1, 6, 1, 35, 1}, {2, 3, 5, 7, 11, 13, 17, 19, 23}, {46337, 46327}, {46341, 46337},
		{api.MaxNumber}, {1, api.MaxNumber}, {api.MaxNumber, 1}, {1 << 30}, {1 << 30, 1}, {2, 1073741789}, {65537, 32749}, {32767, 65537}, {2147483629},
	} {
		r := &random{state: uint64(len(moduli))}
		for range 50 {
			var remainders []int
			for range moduli {
				switch r.below(3) {
				case 0:
					remainders = append(remainders, edges()[r.below(len(edges()))])
				default:
					remainders = append(remainders, r.below(101)-50)
				}
			}
			chinese(t, remainders, moduli)
		}
	}
	for m := 1; m <= 12; m++ {
		for n := 1; n <= 12; n++ {
			for a := -13; a <= 13 && common(m, n) == 1; a++ {
				chinese(t, []int{a, 3 - 2*a}, []int{m, n})
				chinese(t, []int{a, 5 * a, -a}, []int{m, n, 13})
			}
		}
	}
}

func TestChineseErrors(t *testing.T) {
	for _, x := range []struct {
		remainders, moduli []int
		want               api.Errno
	}{
		{[]int{1}, nil, api.ErrMatch},
		{nil, []int{1}, api.ErrMatch},
		{[]int{1, 2}, []int{0}, api.ErrMatch},
		{[]int{1}, []int{4, 6}, api.ErrMatch},
		{[]int{1}, []int{api.MaxNumber, api.MaxNumber}, api.ErrMatch},
		{[]int{1}, []int{0}, api.ErrRange},
		{[]int{1}, []int{-1}, api.ErrRange},
		{[]int{1}, []int{api.MaxNumber + 1}, api.ErrRange},
		{[]int{1, 1}, []int{5, math.MinInt}, api.ErrRange},
		{[]int{1, 1, 1}, []int{4, 6, 0}, api.ErrRange},
		{[]int{1, 1, 1}, []int{api.MaxNumber, 2, 0}, api.ErrRange},
		{[]int{1, 1, 1, 1}, []int{api.MaxNumber, api.MaxNumber, api.MaxNumber, -3}, api.ErrRange},
		{[]int{1, 1}, []int{api.MaxNumber, 2}, api.ErrBig},
		{[]int{1, 1}, []int{2, 1 << 30}, api.ErrBig},
		{[]int{1, 1}, []int{1 << 16, 1 << 16}, api.ErrBig},
		{[]int{1, 1, 1, 1}, []int{1 << 16, 1 << 16, 1 << 16, 1 << 16}, api.ErrBig},
		{[]int{1, 1, 1}, []int{4, 6, api.MaxNumber}, api.ErrBig},
		{[]int{1, 1, 1, 1, 1}, []int{1 << 30, 1 << 30, 1 << 30, 1 << 30, 16}, api.ErrBig},
		{[]int{1, 1}, []int{4, 6}, api.ErrNone},
		{[]int{1, 3}, []int{4, 6}, api.ErrNone},
		{[]int{1, 1}, []int{7, 7}, api.ErrNone},
		{[]int{1, 1, 1}, []int{4, 5, 6}, api.ErrNone},
		{[]int{1, 1, 1}, []int{35, 6, 77}, api.ErrNone},
		{[]int{0, 0}, []int{46337, 46337}, api.ErrNone},
	} {
		y, product, e := number.Chinese(x.remainders, x.moduli)
		refused(t, fmt.Sprintf("P3.5: Chinese(%v, %v)", x.remainders, x.moduli), e, x.want, y, product)
	}
}
