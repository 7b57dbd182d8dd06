package field_test

import (
	"fmt"
	"math"
	"slices"
	"testing"

	"codewright/api"
	"codewright/field"
)

// random is a generator of numbers that are the same in each run.
type random struct{ state uint64 }

func (r *random) below(n int) int {
	r.state = r.state*6364136223846793005 + 1442695040888963407
	return int(r.state >> 33 % uint64(n))
}

// kind is the characteristic and the degree of a field.
type kind struct{ p, m int }

// kinds returns all kinds of fields of at most MaxQ elements, by their orders.
func kinds() map[int]kind {
	all := map[int]kind{}
	for p := 2; p <= api.MaxQ; p++ {
		isPrime := true
		for d := 2; d < p; d++ {
			isPrime = isPrime && p%d != 0
		}
		for q, m := p, 1; isPrime && q <= api.MaxQ; q, m = q*p, m+1 {
			all[q] = kind{p, m}
		}
	}
	return all
}

// orders returns the orders of all fields, in ascending order.
func orders() []int {
	var list []int
	for q := range kinds() {
		list = append(list, q)
	}
	slices.Sort(list)
	return list
}

// split returns the m digits of x in base p, the least significant one first.
func split(x, p, m int) []int {
	var list []int
	for range m {
		list = append(list, x%p)
		x /= p
	}
	return list
}

// join returns the number with these digits in base p.
func join(list []int, p int) int {
	x := 0
	for i := len(list) - 1; i >= 0; i-- {
		x = x*p + list[i]
	}
	return x
}

// reducible returns for each number from 0 to P^M - 1 whether the monic polynomial with these digits as its low coefficients is a product of two others.
func reducible(k kind, q int) []bool {
	marks := make([]bool, q)
	for d, low := 1, k.p; d < k.m; d, low = d+1, low*k.p {
		for x := range low {
			for y := range q / low {
				a, b := append(split(x, k.p, d), 1), append(split(y, k.p, k.m-d), 1)
				product := make([]int, k.m+1)
				for i := range a {
					for j := range b {
						product[i+j] = (product[i+j] + a[i]*b[j]) % k.p
					}
				}
				marks[join(product[:k.m], k.p)] = true
			}
		}
	}
	return marks
}

// described returns descriptions of fields of all orders: all of those of small order, and some of the others, the standard one first.
func described() []api.Field {
	var list []api.Field
	for _, q := range orders() {
		k := kinds()[q]
		if k.m == 1 {
			list = append(list, api.Field{P: k.p, M: 1})
			continue
		}
		count := 0
		for x, no := range reducible(k, q) {
			if !no && (q <= 32 || count < 3 || x%29 == 0) {
				list = append(list, api.Field{P: k.p, M: k.m, Mod: split(x, k.p, k.m)})
				count++
			}
		}
	}
	return list
}

// slow computes sums and products by their definition.
type slow struct{ api.Field }

func (s slow) add(x, y int) int {
	a, b := split(x, s.P, s.M), split(y, s.P, s.M)
	for i := range a {
		a[i] = (a[i] + b[i]) % s.P
	}
	return join(a, s.P)
}

func (s slow) mul(x, y int) int {
	a, b := split(x, s.P, s.M), split(y, s.P, s.M)
	product := make([]int, 2*s.M)
	for i := range a {
		for j := range b {
			product[i+j] += a[i] * b[j]
		}
	}
	for top := 2*s.M - 1; top >= s.M; top-- {
		for i, c := range s.Mod {
			product[top-s.M+i] += (s.P - c) * (product[top] % s.P)
		}
	}
	for i := range product {
		product[i] %= s.P
	}
	return join(product[:s.M], s.P)
}

// made returns the field that f describes.
func made(t *testing.T, f api.Field) *field.GF {
	t.Helper()
	g, e := field.New(f)
	if e != api.OK || g == nil {
		t.Fatalf("P4.1: New(%v): error %d", f, e)
	}
	return g
}

// strangers are ints that are not elements of a field of order q.
func strangers(q int) []int {
	return []int{-1, -2, -q, q, q + 1, 2*q - 1, 256, 257, 1 << 32, 1<<32 + 1, math.MaxInt, math.MinInt, math.MinInt + 1}
}

// name says what is called.
func name(promise, what string, f api.Field, args ...any) string {
	return fmt.Sprintf("%s: %v: %s%v", promise, f, what, args)
}

// equal reports an error unless have is want.
func equal(t *testing.T, have, want int, promise, what string, f api.Field, args ...any) {
	t.Helper()
	if have != want {
		t.Errorf("%s: have %d, want %d", name(promise, what, f, args...), have, want)
	}
}

// right reports an error unless e is wanted and have is want; with an error, want is 0.
func right(t *testing.T, have int, e api.Errno, want int, wanted api.Errno, promise, what string, f api.Field, args ...any) {
	t.Helper()
	if have != want || e != wanted {
		t.Errorf("%s: have %d and error %d, want %d and error %d", name(promise, what, f, args...), have, e, want, wanted)
	}
}
