package cyclic_test

import (
	"math"
	"slices"
	"testing"

	"codewright/api"
	"codewright/cyclic"
	"codewright/factor"
	"codewright/field"
	"codewright/number"
	"codewright/poly"
)

// cosetsOf returns the sets of the remainders of i, i q, i q^2, .. for all i, each once, and in the order of the least members.
func cosetsOf(q, n int) [][]int {
	var list [][]int
	for i := range n {
		var set []int
		for x := i; !slices.Contains(set, x); x = x * q % n {
			set = append(set, x)
		}
		if slices.Min(set) == i {
			slices.Sort(set)
			list = append(list, set)
		}
	}
	return list
}

func TestCosets(t *testing.T) {
	for q := 2; q <= api.MaxQ; q++ {
		for n := 1; n <= 70; n++ {
			have, e := cyclic.Cosets(q, n)
			if d, _ := number.Gcd(q, n); d != 1 {
				failed(t, map[string]result{"Cosets": ofRows(have, e)}, api.ErrMatch, "P16.1", q, n)
				continue
			}
			sameRows(t, have, e, cosetsOf(q, n), "P16.1: Cosets", q, n)
		}
	}
}

func TestCosetsOfGreatNumbers(t *testing.T) {
	for _, x := range [][2]int{{2, 65535}, {3, 65536}, {255, 65536}, {256, 65535}, {256, 65521}, {2, 65521}, {251, 65535}, {243, 65534}, {2, 1}, {256, 1}} {
		q, n := x[0], x[1]
		list, e := cyclic.Cosets(q, n)
		if e != api.OK {
			t.Errorf("P16.1: Cosets%v: error %d", x, e)
		}
		seen := make([]bool, n)
		last := -1
		for _, set := range list {
			if set[0] <= last || !slices.IsSorted(set) {
				t.Fatalf("P16.1: Cosets%v: the order of %v", x, set)
			}
			last = set[0]
			products := []int{}
			for _, i := range set {
				if seen[i] {
					t.Fatalf("P16.9: Cosets%v: %d is twice in them", x, i)
				}
				seen[i] = true
				products = append(products, i*q%n)
			}
			slices.Sort(products)
			if k, _ := number.Order(q, n); !slices.Equal(products, set) || k%len(set) != 0 {
				t.Fatalf("P16.9: Cosets%v: the products of %v are %v", x, set, products)
			}
		}
		if slices.Contains(seen, false) {
			t.Errorf("P16.9: Cosets%v is no partition", x)
		}
	}
	list, e := cyclic.Cosets(2, 7)
	sameRows(t, list, e, [][]int{{0}, {1, 2, 4}, {3, 5, 6}}, "Examples: Cosets")
}

func TestErrorsOfCosets(t *testing.T) {
	of := func(q, n int) map[string]result {
		return map[string]result{"Cosets": ofRows(cyclic.Cosets(q, n))}
	}
	for _, q := range []int{math.MinInt, -3, -1, 0, 1, 257, 65536, math.MaxInt} {
		for _, n := range []int{-1, 0, 1, 2, 7, 65536, 65537} {
			failed(t, of(q, n), api.ErrRange, "P16.1", q, n)
		}
	}
	for q := 2; q <= api.MaxQ; q++ {
		for _, n := range []int{math.MinInt, -7, -1, 0, 65537, 1 << 31, 1 << 32, math.MaxInt} {
			failed(t, of(q, n), api.ErrRange, "P16.1", q, n)
		}
	}
	for _, x := range [][2]int{{2, 65536}, {256, 2}, {15, 35}, {6, 9}, {251, 251 * 251}} {
		failed(t, of(x[0], x[1]), api.ErrMatch, "P16.1", x)
	}
}

// factors returns the monic irreducible factors of x^n - 1.
func factors(t *testing.T, g *field.GF, n int) []api.Factor {
	t.Helper()
	_, list, e := factor.Complete(g, whole(g, n))
	if e != api.OK {
		t.Fatal(n, e)
	}
	return list
}

// TestAll goes through all monic polynomials.
func TestAll(t *testing.T) {
	for _, g := range small(t) {
		for n := 1; n <= longest(g, 4096); n++ {
			var want [][]int
			for degree := range n + 1 {
				for _, w := range words(g, degree) {
					// The words are in lexicographic order; their first entry is the coefficient of the highest power below the degree.
					p := append([]int{1}, w...)
					slices.Reverse(p)
					if _, rest, _ := poly.DivMod(g, whole(g, n), p); len(rest) == 0 {
						want = append(want, p)
					}
				}
			}
			have, e := cyclic.All(g.Field(), n)
			sameRows(t, have, e, want, "P16.5: All", g.Field(), n)
		}
	}
}

// count returns how many monic divisors x^n - 1 has, or 0 if there are more than MaxWords: if n is the product of a number prime to P and a power of P, its irreducible factors belong to the cosets modulo the former, and have the latter as multiplicity.
func count(g *field.GF, n int) int {
	mult := 1
	for n%g.Field().P == 0 {
		n, mult = n/g.Field().P, mult*g.Field().P
	}
	product := 1
	for range cosetsOf(g.Order(), n) {
		if product *= mult + 1; product > api.MaxWords {
			return 0
		}
	}
	return product
}

func TestAllOfGreatLengths(t *testing.T) {
	for _, g := range append(fields(t), standard(t, 17), standard(t, 19)) {
		for n := 1; n <= api.MaxN; n++ {
			want := count(g, n)
			if want == 0 {
				failed(t, map[string]result{"All": ofRows(cyclic.All(g.Field(), n))}, api.ErrBig, "P16.5", g.Field(), n)
				continue
			}
			if want > 512 && (want != api.MaxWords || g.Order() != 17) {
				continue
			}
			divisors(t, g, n, want)
		}
	}
	for q, n := range map[int]int{17: 16, 2: 63} {
		if have := count(standard(t, q), n); have != map[int]int{17: 65536, 2: 8192}[q] {
			t.Errorf("the test counts %d divisors for %d and %d", have, q, n)
		}
	}
}

// divisors reports an error unless All returns want divisors of x^n - 1, in their order.
func divisors(t *testing.T, g *field.GF, n, want int) {
	t.Helper()
	list, e := cyclic.All(g.Field(), n)
	if e != api.OK || len(list) != want {
		t.Fatalf("P16.5: All(%v, %d): %d polynomials and error %d, want %d", g.Field(), n, len(list), e, want)
	}
	for i, p := range list {
		if i > 0 && factor.Compare(g, list[i-1], p) >= 0 {
			t.Fatalf("P16.5: All(%v, %d): the order of %v and %v", g.Field(), n, list[i-1], p)
		}
		if p[len(p)-1] != 1 {
			t.Fatalf("P16.5: All(%v, %d): %v is not monic", g.Field(), n, p)
		}
		if len(list) > 4096 && i%64 > 0 {
			continue
		}
		if _, rest, _ := poly.DivMod(g, whole(g, n), p); len(rest) > 0 {
			t.Fatalf("P16.5: All(%v, %d): %v is no divisor", g.Field(), n, p)
		}
	}
	for i := range list {
		list[i] = append(list[i], -1)
		if i > 0 && list[i-1][len(list[i-1])-1] != -1 {
			t.Fatalf("Rules: All(%v, %d): the polynomials share memory", g.Field(), n)
		}
	}
}

func TestErrorsOfAll(t *testing.T) {
	of := func(f api.Field, n int) map[string]result {
		return map[string]result{"All": ofRows(cyclic.All(f, n))}
	}
	for _, f := range noFields {
		for _, n := range []int{-1, 0, 1, 7, 65} {
			failed(t, of(f, n), api.ErrField, "P16.5", f, n)
		}
	}
	for _, g := range fields(t) {
		for _, n := range []int{math.MinInt, -1, 0, 65, 66, 255, 256, 257, math.MaxInt} {
			failed(t, of(g.Field(), n), api.ErrLength, "P16.5", g.Field(), n)
		}
	}
	two, three := standard(t, 2), standard(t, 3)
	list, e := cyclic.All(two.Field(), 3)
	sameRows(t, list, e, digits("1", "11", "111", "1001"), "Examples: All")
	list, e = cyclic.All(three.Field(), 4)
	sameRows(t, list, e, digits("1", "11", "21", "101", "201", "1111", "2121", "20001"), "P16.5: All")
}
