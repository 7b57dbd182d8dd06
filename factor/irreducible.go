package factor

import (
	"slices"

	"codewright/api"
	"codewright/field"
	"codewright/nat"
	"codewright/number"
	"codewright/poly"
)

// Irreducible reports whether a has degree at least 1 and no divisor of a smaller degree at least 1.
func Irreducible(g *field.GF, a []int) (bool, api.Errno) {
	if e := check(g, a); e != api.OK {
		return false, e
	}
	monic, e := poly.Monic(g, a)
	if poly.Degree(g, monic) < 1 || poly.Degree(g, poly.Gcd(g, monic, poly.Derivative(g, monic))) > 0 {
		return false, e
	}
	return len(fixed(g, monic)) == 1, e
}

// Count returns the number of monic irreducible polynomials of degree n.
func Count(g *field.GF, n int) (api.Nat, api.Errno) {
	if n < 1 || n > api.MaxDegree {
		return nil, api.ErrRange
	}
	// Gauss's formula, inverted: n times the number is the sum of Moebius(n/d) * Q^d over all divisors d of n.
	var more, less api.Nat
	divisors, _ := number.Divisors(n)
	for _, d := range divisors {
		power, _ := nat.Pow(nat.Of(uint64(g.Order())), d)
		switch sign, _ := number.Moebius(n / d); sign {
		case 1:
			more = nat.Add(more, power)
		case -1:
			less = nat.Add(less, power)
		}
	}
	sum, _ := nat.Sub(more, less)
	count, _, e := nat.DivMod(sum, nat.Of(uint64(n)))
	return count, e
}

// Period returns the order of x modulo a.
func Period(g *field.GF, a []int) (int, api.Errno) {
	if e := check(g, a); e != api.OK {
		return 0, e
	}
	if _, e := number.Exp(g.Order(), poly.Degree(g, a), api.MaxWords); e != api.OK {
		return 0, e
	}
	if poly.Eval(g, a, 0) == 0 {
		return 0, api.ErrForm
	}
	_, one, _ := poly.DivMod(g, []int{1}, a)
	_, power, _ := poly.DivMod(g, []int{0, 1}, a)
	n := 1
	for ; !slices.Equal(power, one); n++ {
		_, power, _ = poly.DivMod(g, poly.Mul(g, power, []int{0, 1}), a)
	}
	return n, api.OK
}
