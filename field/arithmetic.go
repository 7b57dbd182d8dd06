package field

import "codewright/api"

// Add returns the sum of x and y.
func (g *GF) Add(x, y int) int {
	x, y = g.element(x), g.element(y)
	switch {
	case g.desc.P == 2:
		return x ^ y
	case x == 0:
		return y
	case y == 0:
		return x
	}
	quo := g.log[y] - g.log[x]
	if quo < 0 {
		quo += g.order - 1
	}
	// The sum is x times the sum of 1 and y/x.
	above := g.above[quo]
	if above == none {
		return 0
	}
	return g.exp[g.log[x]+above]
}

// exponent returns the least exponent that is not negative for a power with the exponent n.
func (g *GF) exponent(n int) int {
	n %= g.order - 1
	if n < 0 {
		n += g.order - 1
	}
	return n
}

// Neg returns the element whose sum with x is 0.
func (g *GF) Neg(x int) int {
	return g.Mul(g.desc.P-1, x)
}

// Sub returns x minus y.
func (g *GF) Sub(x, y int) int {
	return g.Add(x, g.Neg(y))
}

// Mul returns the product of x and y.
func (g *GF) Mul(x, y int) int {
	if !g.isUnit(x) || !g.isUnit(y) {
		return 0
	}
	return g.exp[g.log[x]+g.log[y]]
}

// Inv returns the inverse of x, or ErrZero.
func (g *GF) Inv(x int) (int, api.Errno) {
	if !g.isUnit(x) {
		return 0, api.ErrZero
	}
	return g.exp[g.order-1-g.log[x]], api.OK
}

// Div returns x divided by y, or ErrZero.
func (g *GF) Div(x, y int) (int, api.Errno) {
	inverse, e := g.Inv(y)
	return g.Mul(x, inverse), e
}

// Pow returns x to the power of n, or ErrZero for a negative power of 0.
func (g *GF) Pow(x, n int) (int, api.Errno) {
	switch {
	case g.isUnit(x):
		return g.exp[g.exponent(g.log[x]*g.exponent(n))], api.OK
	case n < 0:
		return 0, api.ErrZero
	case n == 0:
		return 1, api.OK
	}
	return 0, api.OK
}

// MulOrder returns the multiplicative order of x, or ErrZero.
func (g *GF) MulOrder(x int) (int, api.Errno) {
	if !g.isUnit(x) {
		return 0, api.ErrZero
	}
	return (g.order - 1) / gcd(g.order-1, g.log[x]), api.OK
}

// gcd returns the greatest common divisor of a and b, which are not negative.
func gcd(a, b int) int {
	for b != 0 {
		a, b = b, a%b
	}
	return a
}

// Sum returns the sum of the entries of l.
func (g *GF) Sum(l ...int) int {
	sum := 0
	for _, x := range l {
		sum = g.Add(sum, x)
	}
	return sum
}

// Dot returns the sum of the products of the entries with the same index, as far as both lists extend.
func (g *GF) Dot(a, b []int) int {
	sum := 0
	for i := range min(len(a), len(b)) {
		sum = g.Add(sum, g.Mul(a[i], b[i]))
	}
	return sum
}

// Scale returns the entries of l, each multiplied by a.
func (g *GF) Scale(a int, l []int) []int {
	out := make([]int, len(l))
	for i, x := range l {
		out[i] = g.Mul(a, x)
	}
	return out
}

// Digits returns the M coefficients of x, constant first.
func (g *GF) Digits(x int) []int {
	return digits(g.desc.P, g.desc.M, g.element(x))
}

// FromDigits returns the element with the coefficients d.
func (g *GF) FromDigits(d []int) (int, api.Errno) {
	if len(d) != g.desc.M {
		return 0, api.ErrShape
	}
	for _, c := range d {
		if c < 0 || c >= g.desc.P {
			return 0, api.ErrElement
		}
	}
	return fromDigits(g.desc.P, d), api.OK
}
