package factor_test

import (
	"math"
	"math/big"
	"slices"
	"testing"

	"codewright/api"
	"codewright/factor"
	"codewright/field"
	"codewright/poly"
)

// random is a generator of numbers that are the same in each run.
type random struct{ state uint64 }

func (r *random) below(n int) int {
	r.state = r.state*6364136223846793005 + 1442695040888963407
	return int(r.state >> 33 % uint64(n))
}

// made returns the field that f describes.
func made(t *testing.T, f api.Field) *field.GF {
	t.Helper()
	g, e := field.New(f)
	if e != api.OK {
		t.Fatal(f, e)
	}
	return g
}

// standard returns the standard field of order q.
func standard(t *testing.T, q int) *field.GF {
	t.Helper()
	f, e := field.Standard(q)
	if e != api.OK {
		t.Fatal(q, e)
	}
	return made(t, f)
}

// orders are the orders of some fields, small and great, of all kinds.
func orders() []int {
	return []int{2, 3, 4, 5, 7, 8, 9, 11, 16, 25, 27, 32, 49, 64, 81, 125, 127, 128, 169, 243, 251, 256}
}

// fields returns the standard fields of these orders, and some others of composite orders.
func fields(t *testing.T) []*field.GF {
	t.Helper()
	var list []*field.GF
	for _, q := range orders() {
		list = append(list, standard(t, q))
	}
	for _, f := range []api.Field{{P: 2, M: 3, Mod: []int{1, 0, 1}}, {P: 3, M: 2, Mod: []int{2, 1}}, {P: 2, M: 4, Mod: []int{1, 1, 1, 1}}, {P: 5, M: 2, Mod: []int{2, 4}}} {
		list = append(list, made(t, f))
	}
	return list
}

// zeros returns lists that are the zero polynomial.
func zeros(g *field.GF) [][]int {
	return [][]int{nil, {}, {0}, {0, 0, 0}, {-1}, {g.Order(), 0, math.MinInt}}
}

// monomial returns x^n.
func monomial(n int) []int {
	return append(make([]int, n), 1)
}

// loose returns a list with the value of p that is not canonical.
func loose(g *field.GF, p []int) []int {
	list := slices.Clone(p)
	for i, c := range list {
		if c == 0 {
			list[i] = []int{-1, 0, g.Order(), math.MinInt, math.MaxInt}[i%5]
		}
	}
	return append(list, 0, g.Order(), -1, 0)
}

// of returns a polynomial of the degree n, whose leading coefficient is not 0.
func (r *random) of(g *field.GF, n int) []int {
	var p []int
	for range n {
		p = append(p, r.below(g.Order()))
	}
	return append(p, 1+r.below(g.Order()-1))
}

// monics returns all monic polynomials of the degree n in ascending order.
func monics(g *field.GF, n int) [][]int {
	list := [][]int{{1}}
	for range n {
		var longer [][]int
		for _, p := range list {
			for c := range g.Order() {
				longer = append(longer, append([]int{c}, p...))
			}
		}
		list = longer
	}
	return list
}

// index returns the place of a monic polynomial among those of its degree.
func index(g *field.GF, p []int) int {
	n := 0
	for i := len(p) - 2; i >= 0; i-- {
		n = n*g.Order() + p[i]
	}
	return n
}

// sieve returns the monic irreducible polynomials of each degree up to n: those that are no products of monic polynomials of lower degree.
func sieve(g *field.GF, n int) [][][]int {
	list := make([][][]int, n+1)
	for d := 1; d <= n; d++ {
		all := monics(g, d)
		marks := make([]bool, len(all))
		for low := 1; 2*low <= d; low++ {
			for _, p := range list[low] {
				for _, q := range monics(g, d-low) {
					marks[index(g, poly.Mul(g, p, q))] = true
				}
			}
		}
		for i, p := range all {
			if !marks[i] {
				list[d] = append(list[d], p)
			}
		}
	}
	return list
}

// divided returns the monic irreducible factors of p in ascending order, found by division by all of list, and the degree of what then remains.
func divided(g *field.GF, p []int, list [][][]int) ([]api.Factor, int) {
	var fs []api.Factor
	for _, irreducibles := range list {
		for _, f := range irreducibles {
			mult := 0
			for quo, rem, _ := poly.DivMod(g, p, f); len(rem) == 0; quo, rem, _ = poly.DivMod(g, p, f) {
				p = quo
				mult++
			}
			if mult > 0 {
				fs = append(fs, api.Factor{Poly: f, Mult: mult})
			}
		}
	}
	return fs, poly.Degree(g, p)
}

// isIrreducible reports whether the polynomial p is irreducible, by Rabin's test: it divides x^(Q^n) - x, for its degree n, and has no common divisor with x^(Q^d) - x for smaller divisors d of n.
func isIrreducible(g *field.GF, p []int) bool {
	n := poly.Degree(g, p)
	if n < 1 {
		return false
	}
	power := []int{0, 1}
	for d := 1; d <= n; d++ {
		power, _ = poly.PowMod(g, power, g.Order(), p)
		common := poly.Gcd(g, p, poly.Sub(g, power, []int{0, 1}))
		if d < n && n%d == 0 && len(common) > 1 {
			return false
		}
		if d == n && len(common) != n+1 {
			return false
		}
	}
	return true
}

// multiplied returns lead times the product of the factors.
func multiplied(g *field.GF, lead int, fs []api.Factor) []int {
	p := []int{lead}
	for _, f := range fs {
		for range f.Mult {
			p = poly.Mul(g, p, f.Poly)
		}
	}
	return p
}

// less compares canonical polynomials: by their degrees, and then from their leading coefficients down.
func less(a, b []int) int {
	if len(a) != len(b) {
		return len(a) - len(b)
	}
	for i := len(a) - 1; i >= 0; i-- {
		if a[i] != b[i] {
			return a[i] - b[i]
		}
	}
	return 0
}

// grouped returns the products of the polynomials of fs that have the same key, with their keys in ascending order.
func grouped(g *field.GF, fs []api.Factor, key func(api.Factor) int) []api.Factor {
	products := map[int][]int{}
	var keys []int
	for _, f := range fs {
		k := key(f)
		if products[k] == nil {
			products[k] = []int{1}
			keys = append(keys, k)
		}
		products[k] = poly.Mul(g, products[k], f.Poly)
	}
	slices.Sort(keys)
	var list []api.Factor
	for _, k := range keys {
		list = append(list, api.Factor{Poly: products[k], Mult: k})
	}
	return list
}

// byMult and byDegree are keys of factors.
func byMult(f api.Factor) int   { return f.Mult }
func byDegree(f api.Factor) int { return len(f.Poly) - 1 }

// sameFactors reports whether a and b are the same lists.
func sameFactors(a, b []api.Factor) bool {
	return slices.EqualFunc(a, b, func(x, y api.Factor) bool { return x.Mult == y.Mult && slices.Equal(x.Poly, y.Poly) })
}

// factored reports an error unless Complete, Squarefree, ByDegree and Irreducible are right for lead times the product of fs, which are monic irreducible polynomials in ascending order.
func factored(t *testing.T, g *field.GF, lead int, fs []api.Factor) {
	t.Helper()
	whole := multiplied(g, lead, fs)
	repeated := slices.ContainsFunc(fs, func(f api.Factor) bool { return f.Mult > 1 })
	for _, a := range [][]int{whole, loose(g, whole)} {
		check(t, g, a, lead, fs, repeated)
	}
}

// check does what factored says for the list a.
func check(t *testing.T, g *field.GF, a []int, lead int, fs []api.Factor, repeated bool) {
	t.Helper()
	kept := slices.Clone(a)
	if l, have, e := factor.Complete(g, a); l != lead || !sameFactors(have, fs) || e != api.OK {
		t.Errorf("P6.2: Complete(%v) over %v: have %d, %v and error %d, want %d, %v", a, g.Field(), l, have, e, lead, fs)
	}
	if have, e := factor.Squarefree(g, a); !sameFactors(have, grouped(g, fs, byMult)) || e != api.OK {
		t.Errorf("P6.3: Squarefree(%v) over %v: have %v and error %d, want %v", a, g.Field(), have, e, grouped(g, fs, byMult))
	}
	have, e := factor.ByDegree(g, a)
	if repeated && (e != api.ErrForm || len(have) > 0) {
		t.Errorf("P6.4: ByDegree(%v) over %v: have %v and error %d, want ErrForm", a, g.Field(), have, e)
	}
	if !repeated && (e != api.OK || !sameFactors(have, grouped(g, fs, byDegree))) {
		t.Errorf("P6.4: ByDegree(%v) over %v: have %v and error %d, want %v", a, g.Field(), have, e, grouped(g, fs, byDegree))
	}
	if ok, e := factor.Irreducible(g, a); ok != (len(fs) == 1 && !repeated) || e != api.OK {
		t.Errorf("P6.6: Irreducible(%v) over %v: have %v and error %d", a, g.Field(), ok, e)
	}
	if !slices.Equal(a, kept) {
		t.Errorf("Rules: an argument is changed: %v", kept)
	}
}

// valueOf returns the value of n.
func valueOf(n api.Nat) *big.Int {
	value := new(big.Int)
	for _, limb := range slices.Backward(n) {
		value.Lsh(value, 32).Add(value, big.NewInt(int64(limb)))
	}
	return value
}
