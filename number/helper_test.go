package number_test

import (
	"math"
	"math/big"
	"slices"
	"testing"

	"codewright/api"
)

// random is a generator of numbers that are the same in each run.
type random struct{ state uint64 }

func (r *random) next() uint64 {
	r.state = r.state*6364136223846793005 + 1442695040888963407
	return r.state >> 20
}

func (r *random) below(n int) int { return int(r.next() % uint64(n)) }

// positive returns a number from 1 to MaxNumber, of any number of digits.
func (r *random) positive() int { return 1 + r.below(api.MaxNumber)>>r.below(31) }

// signed returns a number from -MaxNumber to MaxNumber.
func (r *random) signed() int {
	if r.below(2) == 0 {
		return -r.positive()
	}
	return r.positive()
}

// notPositive are numbers that are not from 1 to MaxNumber.
func notPositive() []int {
	return []int{0, -1, -2, -7, -api.MaxNumber, api.MaxNumber + 1, 1 << 32, 1<<32 + 6, 1 << 62, math.MaxInt, math.MinInt, math.MinInt + 1}
}

// edges are ints at the ends of their ranges.
func edges() []int {
	return []int{math.MinInt, math.MinInt + 1, -1 << 62, -1<<32 - 1, -1 << 32, -api.MaxNumber - 1, -api.MaxNumber, api.MaxNumber, api.MaxNumber + 1, 1 << 32, 1<<32 + 1, 1 << 62, math.MaxInt - 1, math.MaxInt}
}

// whole returns n.
func whole(n int) *big.Int { return big.NewInt(int64(n)) }

// common returns the greatest common divisor of a and b, which are not negative.
func common(a, b int) int {
	return int(new(big.Int).GCD(nil, nil, whole(a), whole(b)).Int64())
}

// right reports an error unless e is OK and have is want.
func right(t *testing.T, what string, have int, e api.Errno, want int) {
	t.Helper()
	if e != api.OK || have != want {
		t.Errorf("%s: have %d and error %d, want %d", what, have, e, want)
	}
}

// refused reports an error unless e is want and all numbers are 0.
func refused(t *testing.T, what string, e, want api.Errno, have ...int) {
	t.Helper()
	if e != want || slices.ContainsFunc(have, func(n int) bool { return n != 0 }) {
		t.Errorf("%s: have error %d with %d, want error %d with zeros", what, e, have, want)
	}
}
