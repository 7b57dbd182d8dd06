package number_test

import (
	"fmt"
	"math"
	"slices"
	"testing"

	"codewright/api"
	"codewright/number"
)

// limit is the end of the range in which numbers are compared with a sieve.
const limit = 20000

// large are numbers whose least prime factors are large, and others at the end of the range.
func large() []int {
	return []int{
		api.MaxNumber, api.MaxNumber - 1, api.MaxNumber - 2, 1 << 30, 3486784401 / 3, 46337 * 46337, 46337 * 46327, 46339 * 46337, 46341 * 46337, 46349 * 46327,
		2147483629, 2147483629 - 1, 1289 * 1289 * 1289, 211 * 211 * 211 * 211, 73 * 73 * 73 * 73 * 73, 223092870, 9 * 223092870, 2 * 1073741789, 1073741789, 65537, 65536, 65537 * 32749, 65521, 1369, 961, 1849, 3599,
	}
}

// check compares Factor with trial division by all numbers.
func check(t *testing.T, n int) []api.Power {
	t.Helper()
	var want []api.Power
	rest := n
	for d := 2; d*d <= rest; d++ {
		exp := 0
		for ; rest%d == 0; rest /= d {
			exp++
		}
		if exp > 0 {
			want = append(want, api.Power{Prime: d, Exp: exp})
		}
	}
	if rest > 1 {
		want = append(want, api.Power{Prime: rest, Exp: 1})
	}
	have, e := number.Factor(n)
	if e != api.OK || !slices.Equal(have, want) {
		t.Errorf("P3.1: Factor(%d): have %v and error %d, want %v", n, have, e, want)
	}
	return want
}

func TestFactor(t *testing.T) {
	for n := 1; n <= limit; n++ {
		check(t, n)
	}
	for _, n := range large() {
		check(t, n)
	}
	r := &random{state: 1}
	for range 300 {
		check(t, r.positive())
	}
	if powers, e := number.Factor(1); e != api.OK || len(powers) != 0 {
		t.Error("P3.1: Factor(1):", powers, e)
	}
}

func TestPrimeAndPrimePower(t *testing.T) {
	try := func(n int) {
		t.Helper()
		powers := check(t, n)
		isPrime := len(powers) == 1 && powers[0].Exp == 1
		if number.Prime(n) != isPrime {
			t.Errorf("P3.1: Prime(%d): %v", n, !isPrime)
		}
		p, m, e := number.PrimePower(n)
		if len(powers) != 1 {
			refused(t, fmt.Sprintf("P3.1: PrimePower(%d)", n), e, api.ErrNone, p, m)
			return
		}
		if e != api.OK || p != powers[0].Prime || m != powers[0].Exp {
			t.Errorf("P3.1: PrimePower(%d): have %d, %d and error %d, want %v", n, p, m, e, powers[0])
		}
	}
	for n := 1; n <= limit; n++ {
		try(n)
	}
	for _, n := range large() {
		try(n)
	}
	for n, m := 2, 1; n <= api.MaxNumber; n, m = 2*n, m+1 {
		if p, exp, e := number.PrimePower(n); p != 2 || exp != m || e != api.OK {
			t.Errorf("P3.1: PrimePower(%d): %d, %d and error %d", n, p, exp, e)
		}
	}
	for _, n := range notPositive() {
		if number.Prime(n) {
			t.Error("P3.1: Prime beyond its range:", n)
		}
	}
	// 2^31 + 11 and 2^61 - 1 are primes, but beyond the range.
	if number.Prime(1) || number.Prime(1<<31+11) || number.Prime(1<<61-1) {
		t.Error("P3.1: Prime(1) or primes beyond the range")
	}
}

func TestDivisors(t *testing.T) {
	try := func(n int) {
		t.Helper()
		var want, behind []int
		for d := 1; d*d <= n; d++ {
			if n%d == 0 {
				want = append(want, d)
				if d*d < n {
					behind = append(behind, n/d)
				}
			}
		}
		slices.Reverse(behind)
		want = append(want, behind...)
		have, e := number.Divisors(n)
		if e != api.OK || !slices.Equal(have, want) {
			t.Errorf("P3.1: Divisors(%d): have %v and error %d, want %v", n, have, e, want)
		}
	}
	for n := 1; n <= 3000; n++ {
		try(n)
	}
	for _, n := range large() {
		try(n)
	}
	try(2095133040)
	if have, _ := number.Divisors(2095133040); len(have) != 1600 {
		t.Error("P3.1: 2095133040 has 1600 divisors:", len(have))
	}
}

func TestPhiAndMoebius(t *testing.T) {
	for n := 1; n <= 1200; n++ {
		want := 0
		for k := 1; k <= n; k++ {
			if common(k, n) == 1 {
				want++
			}
		}
		have, e := number.Phi(n)
		right(t, fmt.Sprintf("P3.4: Phi(%d)", n), have, e, want)
	}
	try := func(n int) {
		t.Helper()
		phi, moebius := 1, 1
		for _, power := range check(t, n) {
			phi *= power.Prime - 1
			for range power.Exp - 1 {
				phi *= power.Prime
			}
			moebius = -moebius
			if power.Exp > 1 {
				moebius = 0
				continue
			}
		}
		have, e := number.Phi(n)
		right(t, fmt.Sprintf("P3.4: Phi(%d)", n), have, e, phi)
		have, e = number.Moebius(n)
		right(t, fmt.Sprintf("P3.4: Moebius(%d)", n), have, e, moebius)
	}
	for n := 1; n <= limit; n++ {
		try(n)
	}
	for _, n := range large() {
		try(n)
	}
}

func TestNumbersOutOfRange(t *testing.T) {
	for _, n := range notPositive() {
		what := func(name string) string { return fmt.Sprintf("P3.1: %s(%d)", name, n) }
		powers, e := number.Factor(n)
		refused(t, what("Factor"), e, api.ErrRange, len(powers))
		p, m, e := number.PrimePower(n)
		refused(t, what("PrimePower"), e, api.ErrRange, p, m)
		divisors, e := number.Divisors(n)
		refused(t, what("Divisors"), e, api.ErrRange, divisors...)
		phi, e := number.Phi(n)
		refused(t, what("Phi"), e, api.ErrRange, phi)
		moebius, e := number.Moebius(n)
		refused(t, what("Moebius"), e, api.ErrRange, moebius)
	}
}

func TestResultsAreNewMemory(t *testing.T) {
	first, _ := number.Factor(360)
	first[0] = api.Power{}
	check(t, 360)
	divisors, _ := number.Divisors(12)
	divisors[0] = 9
	if again, _ := number.Divisors(12); !slices.Equal(again, []int{1, 2, 3, 4, 6, 12}) {
		t.Error("P3.1: Divisors(12):", again)
	}
	remainders, moduli, factors := []int{-1, 4, math.MinInt}, []int{3, 7, 5}, []int{2, 3, 5}
	number.Chinese(remainders, moduli)
	number.Product(30, factors...)
	if !slices.Equal(remainders, []int{-1, 4, math.MinInt}) || !slices.Equal(moduli, []int{3, 7, 5}) || !slices.Equal(factors, []int{2, 3, 5}) {
		t.Error("P3.5, P3.6: an argument is changed")
	}
}
