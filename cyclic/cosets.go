package cyclic

import (
	"slices"

	"codewright/api"
	"codewright/factor"
	"codewright/field"
	"codewright/number"
	"codewright/poly"
)

// Cosets returns the cyclotomic cosets of q modulo n, or ErrRange, ErrMatch.
func Cosets(q, n int) ([][]int, api.Errno) {
	if q < 2 || q > api.MaxQ || n < 1 || n > api.MaxWords {
		return nil, api.ErrRange
	}
	divisor, e := number.Gcd(q, n)
	if e != api.OK {
		return nil, e
	}
	if divisor != 1 {
		return nil, api.ErrMatch
	}
	var list [][]int
	seen := make([]bool, n)
	for i := range n {
		var coset []int
		// The multiplication by q is a permutation, so that it comes back to i.
		for x := i; !seen[x]; x = x * q % n {
			seen[x] = true
			coset = append(coset, x)
		}
		if len(coset) > 0 {
			slices.Sort(coset)
			list = append(list, coset)
		}
	}
	return list, api.OK
}

// All returns the generator polynomials of all cyclic codes of length n, or ErrField, ErrLength, ErrBig.
func All(f api.Field, n int) ([][]int, api.Errno) {
	g, e := field.New(f)
	if e != api.OK {
		return nil, e
	}
	if n < 1 || n > api.MaxN {
		return nil, api.ErrLength
	}
	_, factors, e := factor.Complete(g, unity(g, n))
	if e != api.OK {
		return nil, e
	}
	var choices []int
	for _, p := range factors {
		choices = append(choices, p.Mult+1)
	}
	if _, e := number.Product(api.MaxWords, choices...); e != api.OK {
		return nil, e
	}
	list := [][]int{{1}}
	for _, p := range factors {
		list = multiplied(g, list, p)
	}
	slices.SortFunc(list, func(a, b []int) int { return factor.Compare(g, a, b) })
	return list, api.OK
}

// multiplied returns the products of each polynomial of the list and each power of the polynomial of p, up to its multiplicity.
func multiplied(g *field.GF, list [][]int, p api.Factor) [][]int {
	var products [][]int
	for _, product := range list {
		products = append(products, product)
		for range p.Mult {
			product = poly.Mul(g, product, p.Poly)
			products = append(products, product)
		}
	}
	return products
}
