package dlog_test

import (
	"math"
	"slices"
	"testing"

	"codewright/api"
	"codewright/field"
)

// random is a generator of numbers that are the same in each run.
type random struct{ state uint64 }

func (r *random) below(n int) int {
	r.state = r.state*6364136223846793005 + 1442695040888963407
	return int(r.state >> 33 % uint64(n))
}

// made returns the field that f describes.
func made(t *testing.T, f api.Field) *field.GF {
	t.Helper()
	g, e := field.New(f)
	if e != api.OK {
		t.Fatal(f, e)
	}
	return g
}

// standard returns the standard field of order q.
func standard(t *testing.T, q int) *field.GF {
	t.Helper()
	f, e := field.Standard(q)
	if e != api.OK {
		t.Fatal(q, e)
	}
	return made(t, f)
}

// fields returns the standard fields of all orders, and some others.
func fields(t *testing.T) []*field.GF {
	t.Helper()
	var list []*field.GF
	for q := 2; q <= api.MaxQ; q++ {
		if f, e := field.Standard(q); e == api.OK {
			list = append(list, made(t, f))
		}
	}
	// In these fields the residue of X is not always primitive.
	for _, f := range []api.Field{{P: 2, M: 4, Mod: []int{1, 1, 1, 1}}, {P: 3, M: 2, Mod: []int{2, 1}}, {P: 5, M: 2, Mod: []int{3, 0}}, {P: 2, M: 8, Mod: []int{1, 0, 1, 1, 1, 0, 0, 0}}} {
		list = append(list, made(t, f))
	}
	return list
}

// strangers are ints that are not elements of g.
func strangers(g *field.GF) []int {
	q := g.Order()
	return []int{-1, -2, -q, q, q + 1, 2*q - 1, 257, 1 << 32, 1<<32 + 1, math.MaxInt, math.MinInt, math.MinInt + 1}
}

// zeros are ints that are 0, or count as 0.
func zeros(g *field.GF) []int {
	return append(strangers(g), 0)
}

// counted returns x as it counts: 0 if it is not an element.
func counted(g *field.GF, x int) int {
	if x < 0 || x >= g.Order() {
		return 0
	}
	return x
}

// powers returns the powers of x, which is not 0, from the exponent 0 to the last one before 1 comes again, made by products.
func powers(g *field.GF, x int) []int {
	list := []int{1}
	for power := x; power != 1; power = g.Mul(power, x) {
		list = append(list, power)
	}
	return list
}

// primes returns the primes that divide n, by trial.
func primes(n int) []int {
	var list []int
	for r := 2; r <= n; r++ {
		isPrime := n%r == 0
		for d := 2; d < r && isPrime; d++ {
			isPrime = r%d != 0
		}
		if isPrime {
			list = append(list, r)
		}
	}
	return list
}

// proofOf returns the proof of the order of x, which is not 0.
func proofOf(g *field.GF, x int) api.OrderProof {
	n := len(powers(g, x))
	return api.OrderProof{Order: n, Primes: primes(n)}
}

// sameProof reports whether a and b are equal.
func sameProof(a, b api.OrderProof) bool {
	return a.Order == b.Order && slices.Equal(a.Primes, b.Primes)
}

// right reports an error unless have is want and e is wanted; with an error, want is 0.
func right(t *testing.T, have int, e api.Errno, want int, wanted api.Errno, promise string, g *field.GF, args ...any) {
	t.Helper()
	if have != want || e != wanted {
		t.Errorf("%s: %v: %v: have %d and error %d, want %d and error %d", promise, g.Field(), args, have, e, want, wanted)
	}
}
