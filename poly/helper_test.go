package poly_test

import (
	"math"
	"slices"
	"testing"

	"codewright/api"
	"codewright/field"
)

// random is a generator of numbers that are the same in each run.
type random struct{ state uint64 }

func (r *random) below(n int) int {
	r.state = r.state*6364136223846793005 + 1442695040888963407
	return int(r.state >> 33 % uint64(n))
}

// fields returns fields of many orders: the standard ones, and some others of composite orders.
func fields(t *testing.T) []*field.GF {
	t.Helper()
	list := []api.Field{{P: 2, M: 2, Mod: []int{1, 1}}, {P: 2, M: 3, Mod: []int{1, 0, 1}}, {P: 3, M: 2, Mod: []int{2, 1}}, {P: 2, M: 4, Mod: []int{1, 1, 1, 1}}, {P: 5, M: 2, Mod: []int{2, 4}}}
	for _, q := range []int{2, 3, 5, 7, 8, 9, 13, 16, 27, 49, 64, 81, 121, 128, 243, 251, 256} {
		f, e := field.Standard(q)
		if e != api.OK {
			t.Fatal(q, e)
		}
		list = append(list, f)
	}
	var made []*field.GF
	for _, f := range list {
		g, e := field.New(f)
		if e != api.OK {
			t.Fatal(f, e)
		}
		made = append(made, g)
	}
	return made
}

// standard returns the standard field of order q.
func standard(t *testing.T, q int) *field.GF {
	t.Helper()
	f, e := field.Standard(q)
	if e != api.OK {
		t.Fatal(q, e)
	}
	g, e := field.New(f)
	if e != api.OK {
		t.Fatal(q, e)
	}
	return g
}

// strangers are ints that are not elements of a field of order q.
func strangers(q int) []int {
	return []int{-1, -q, q, q + 1, 2*q - 1, 256, 257, 1 << 32, 1<<32 + 1, math.MaxInt, math.MinInt, math.MinInt + 1}
}

// at returns the coefficient of p at x^i.
func at(g *field.GF, p []int, i int) int {
	if i < 0 || i >= len(p) || p[i] < 0 || p[i] >= g.Order() {
		return 0
	}
	return p[i]
}

// canonical returns p in its canonical form.
func canonical(g *field.GF, p []int) []int {
	var list []int
	for i := range p {
		list = append(list, at(g, p, i))
	}
	for len(list) > 0 && list[len(list)-1] == 0 {
		list = list[:len(list)-1]
	}
	return list
}

// exact returns a canonical polynomial of a degree below n.
func (r *random) exact(g *field.GF, n int) []int {
	p := make([]int, r.below(n+1))
	for i := range p {
		p[i] = r.below(g.Order())
	}
	return canonical(g, p)
}

// loose returns a list with the value of a polynomial of a degree below n, often with zeros at its end and with ints that are not elements.
func (r *random) loose(g *field.GF, n int) []int {
	p := r.exact(g, n)
	for i := range p {
		if r.below(6) == 0 {
			p[i] = strangers(g.Order())[r.below(12)]
		}
	}
	for range r.below(4) {
		p = append(p, []int{0, 0, -1, g.Order()}[r.below(4)])
	}
	return p
}

// zeros returns lists that are the zero polynomial.
func zeros(g *field.GF) [][]int {
	return [][]int{nil, {}, {0}, {0, 0, 0}, {-1}, {g.Order(), 0, math.MinInt}}
}

// monomial returns x^n.
func monomial(n int) []int {
	return append(make([]int, n), 1)
}

// plus returns the sum of p and q.
func plus(g *field.GF, p, q []int) []int {
	var sum []int
	for i := range max(len(p), len(q)) {
		sum = append(sum, g.Add(at(g, p, i), at(g, q, i)))
	}
	return canonical(g, sum)
}

// product returns the product of p and q, each coefficient by its definition.
func product(g *field.GF, p, q []int) []int {
	var list []int
	for i := range len(p) + len(q) {
		c := 0
		for j := range i + 1 {
			c = g.Add(c, g.Mul(at(g, p, j), at(g, q, i-j)))
		}
		list = append(list, c)
	}
	return canonical(g, list)
}

// degree returns the degree of a canonical polynomial.
func degree(p []int) int { return len(p) - 1 }

// all returns all polynomials of a degree below n.
func all(g *field.GF, n int) [][]int {
	list := [][]int{nil}
	for range n {
		var longer [][]int
		for _, p := range list {
			for c := range g.Order() {
				longer = append(longer, append([]int{c}, p...))
			}
		}
		list = longer
	}
	for i, p := range list {
		list[i] = canonical(g, p)
	}
	return list
}

// equal reports an error unless have is want.
func equal(t *testing.T, g *field.GF, have, want []int, what string, args ...any) {
	t.Helper()
	if !slices.Equal(have, want) {
		t.Errorf("%s: %v of %v: have %v, want %v", what, args, g.Field(), have, want)
	}
}

// right reports an error unless e is OK and have is want.
func right(t *testing.T, g *field.GF, have []int, e api.Errno, want []int, what string, args ...any) {
	t.Helper()
	if e != api.OK {
		t.Errorf("%s: %v of %v: error %d", what, args, g.Field(), e)
	}
	equal(t, g, have, want, what, args...)
}

// refused reports an error unless e is want and there is no polynomial.
func refused(t *testing.T, g *field.GF, have []int, e, want api.Errno, what string, args ...any) {
	t.Helper()
	if e != want || len(have) > 0 {
		t.Errorf("%s: %v of %v: have %v and error %d, want error %d", what, args, g.Field(), have, e, want)
	}
}
