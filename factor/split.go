package factor

import (
	"codewright/field"
	"codewright/poly"
)

// split returns the irreducible factors of f, which is monic, squarefree and of degree at least 1 (Berlekamp's algorithm).
func split(g *field.GF, f []int) [][]int {
	basis := fixed(g, f)
	factors := [][]int{f}
	for _, v := range basis {
		// The basis has as many polynomials as f has irreducible factors.
		if len(factors) == len(basis) {
			break
		}
		var finer [][]int
		for _, h := range factors {
			finer = append(finer, separate(g, h, v)...)
		}
		factors = finer
	}
	return factors
}

// separate returns the greatest common divisors of the monic polynomial h and v - s, for all elements s, that are not constant; h divides v^Q - v, the product of these v - s.
func separate(g *field.GF, h, v []int) [][]int {
	_, v, _ = poly.DivMod(g, v, h)
	if len(v) < 2 {
		return [][]int{h}
	}
	var parts [][]int
	for s := range g.Elements() {
		part := poly.Gcd(g, h, poly.Sub(g, v, []int{s}))
		if len(part) < 2 {
			continue
		}
		parts = append(parts, part)
		h = quotient(g, h, part)
		if len(h) < 2 {
			break
		}
	}
	return parts
}

// relation is a polynomial v, and its image: the remainder of v^Q - v divided by a given polynomial.
type relation struct{ v, image []int }

// fixed returns a basis of the space of all polynomials v of a degree below that of f for which f divides v^Q - v; f is monic and of degree at least 1. If f is squarefree, the remainder of such a v modulo an irreducible factor of f is an element of the field, and there is a v for each choice of these elements.
func fixed(g *field.GF, f []int) [][]int {
	var basis [][]int
	// Images are linear, since sums to the power of Q are sums of powers. For each degree there is at most one relation whose image has it.
	pivots := make([]relation, len(f)-1)
	for _, r := range relations(g, f) {
		top := len(r.image) - 1
		for ; top >= 0; top-- {
			factor := g.Neg(r.image[top])
			if factor == 0 {
				continue
			}
			if pivots[top].v == nil {
				break
			}
			addMultiple(g, r.v, factor, pivots[top].v)
			addMultiple(g, r.image, factor, pivots[top].image)
		}
		if top < 0 {
			basis = append(basis, poly.Canon(g, r.v))
		} else {
			inverse, _ := g.Inv(r.image[top])
			pivots[top] = relation{v: g.Scale(inverse, r.v), image: g.Scale(inverse, r.image[:top+1])}
		}
	}
	return basis
}

// relations returns the powers of x of a degree below that of f, with their images, all with as many coefficients as that degree says; f is monic and of degree at least 1.
func relations(g *field.GF, f []int) []relation {
	factor, _ := poly.PowMod(g, []int{0, 1}, g.Order(), f)
	list := make([]relation, len(f)-1)
	remainder := []int{1}
	for i := range list {
		v, image := make([]int, len(f)-1), make([]int, len(f)-1)
		v[i] = 1
		copy(image, remainder)
		image[i] = g.Sub(image[i], 1)
		list[i] = relation{v: v, image: image}
		_, remainder, _ = poly.DivMod(g, poly.Mul(g, remainder, factor), f)
	}
	return list
}

// addMultiple adds l, multiplied by a, to the first entries of sum, which is at least as long.
func addMultiple(g *field.GF, sum []int, a int, l []int) {
	for i, x := range l {
		sum[i] = g.Add(sum[i], g.Mul(a, x))
	}
}
