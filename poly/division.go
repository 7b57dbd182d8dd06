package poly

import (
	"math/bits"
	"slices"

	"codewright/api"
	"codewright/field"
)

// DivMod returns the quotient and the remainder of p divided by q.
func DivMod(g *field.GF, p, q []int) (quo, rem []int, e api.Errno) {
	rem, q = Canon(g, p), Canon(g, q)
	if len(q) == 0 {
		return nil, nil, api.ErrZero
	}
	inverse, e := g.Inv(q[len(q)-1])
	quo = make([]int, max(0, len(rem)-len(q)+1))
	for i := range slices.Backward(quo) {
		quo[i] = g.Mul(rem[i+len(q)-1], inverse)
		addMultiple(g, rem[i:], g.Neg(quo[i]), q)
	}
	return quo, trim(g, rem), e
}

// Gcd returns the monic greatest common divisor of p and q.
func Gcd(g *field.GF, p, q []int) []int {
	for Degree(g, q) >= 0 {
		_, rem, _ := DivMod(g, p, q)
		p, q = q, rem
	}
	// If both were zero, so is p, and Monic returns no polynomial but an error.
	d, _ := Monic(g, p)
	return d
}

// Bezout returns the monic greatest common divisor d and u, v with u*p + v*q = d.
func Bezout(g *field.GF, p, q []int) (d, u, v []int) {
	d, u = cofactor(g, p, q)
	// If q is zero there is no quotient, and v is zero.
	v, _, _ = DivMod(g, Sub(g, d, Mul(g, u, p)), q)
	return d, u, v
}

// cofactor returns the monic greatest common divisor d of p and q, and a polynomial u for which q divides u*p - d. By Euclid's algorithm u has a lower degree than q divided by d, unless q is zero.
func cofactor(g *field.GF, p, q []int) (d, u []int) {
	u, next := []int{1}, []int{}
	for Degree(g, q) >= 0 {
		quo, rem, _ := DivMod(g, p, q)
		p, q = q, rem
		u, next = next, Sub(g, u, Mul(g, quo, next))
	}
	p = Canon(g, p)
	if len(p) == 0 {
		return nil, nil
	}
	inverse, _ := g.Inv(p[len(p)-1])
	return g.Scale(inverse, p), g.Scale(inverse, u)
}

// PowMod returns the remainder of p to the power of n divided by m.
func PowMod(g *field.GF, p []int, n int, m []int) ([]int, api.Errno) {
	switch degree := Degree(g, m); {
	case degree < 0:
		return nil, api.ErrZero
	case degree > api.MaxDegree:
		return nil, api.ErrBig
	case n < 0:
		return nil, api.ErrRange
	}
	_, p, _ = DivMod(g, p, m)
	_, power, e := DivMod(g, []int{1}, m)
	// From the highest binary digit down, so that p, which is often x, remains a factor with few coefficients.
	for digit := bits.Len(uint(n)) - 1; digit >= 0; digit-- {
		_, power, e = DivMod(g, Mul(g, power, power), m)
		if n>>digit&1 == 1 {
			_, power, e = DivMod(g, Mul(g, power, p), m)
		}
	}
	return power, e
}
