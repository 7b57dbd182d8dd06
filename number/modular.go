package number

import "codewright/api"

// Gcd returns the greatest common divisor of a and b, or ErrRange.
func Gcd(a, b int) (int, api.Errno) {
	if !isSmall(a) || !isSmall(b) {
		return 0, api.ErrRange
	}
	greatest, _ := cofactor(size(a), size(b))
	return greatest, api.OK
}

// Bezout returns the greatest common divisor g of a and b, and x and y with a*x + b*y = g, or ErrRange.
func Bezout(a, b int) (int, int, int, api.Errno) {
	if !isSmall(a) || !isSmall(b) {
		return 0, 0, 0, api.ErrRange
	}
	if b == 0 {
		return size(a), sign(a), 0, api.OK
	}
	greatest, x := cofactor(residue(a, size(b)), size(b))
	x = residue(x, size(b)/greatest)
	return greatest, x, (greatest - a*x) / b, api.OK
}

// isSmall reports whether n is from -MaxNumber to MaxNumber.
func isSmall(n int) bool {
	return n >= -api.MaxNumber && n <= api.MaxNumber
}

// size returns the absolute value of n.
func size(n int) int {
	if n < 0 {
		return -n
	}
	return n
}

// sign returns 1, -1 or 0, as n is positive, negative or 0.
func sign(n int) int {
	switch {
	case n > 0:
		return 1
	case n < 0:
		return -1
	}
	return 0
}

// residue returns the number from 0 to n-1 that is congruent to a modulo n; n is positive.
func residue(a, n int) int {
	a %= n
	if a < 0 {
		a += n
	}
	return a
}

// cofactor returns the greatest common divisor of a and b, which are not negative, and a number whose product with a is congruent to it modulo b.
func cofactor(a, b int) (int, int) {
	first, second := 1, 0
	for b != 0 {
		quo := a / b
		a, b = b, a-quo*b
		first, second = second, first-quo*second
	}
	return a, first
}

// Inverse returns the x from 0 to n-1 for which n divides a*x - 1, or ErrRange, ErrNone.
func Inverse(a, n int) (int, api.Errno) {
	if !isPositive(n) {
		return 0, api.ErrRange
	}
	common, x := cofactor(residue(a, n), n)
	if common != 1 {
		return 0, api.ErrNone
	}
	return residue(x, n), api.OK
}

// Power returns the remainder of a to the power of e modulo n, or ErrRange.
func Power(a, e, n int) (int, api.Errno) {
	if e < 0 || !isPositive(n) {
		return 0, api.ErrRange
	}
	return power(residue(a, n), e, n), api.OK
}

// power returns the remainder of a to the power of e modulo n; a is from 0 to n-1, and n at most MaxNumber, so that products fit into an int.
func power(a, e, n int) int {
	result := 1 % n
	for ; e > 0; e /= 2 {
		if e%2 == 1 {
			result = result * a % n
		}
		a = a * a % n
	}
	return result
}

// Order returns the multiplicative order of a modulo n, or ErrRange, ErrNone.
func Order(a, n int) (int, api.Errno) {
	if !isPositive(n) {
		return 0, api.ErrRange
	}
	a = residue(a, n)
	if common, _ := cofactor(a, n); common != 1 {
		return 0, api.ErrNone
	}
	order, _ := Phi(n)
	primes, _ := Factor(order)
	for _, p := range primes {
		for order%p.Prime == 0 && power(a, order/p.Prime, n) == 1 {
			order /= p.Prime
		}
	}
	return order, api.OK
}

// Chinese returns the x from 0 to the product of the moduli minus 1 that is congruent to each remainder, and this product, or ErrMatch, ErrRange, ErrBig, ErrNone.
func Chinese(remainders, moduli []int) (int, int, api.Errno) {
	if len(remainders) != len(moduli) {
		return 0, 0, api.ErrMatch
	}
	for _, n := range moduli {
		if !isPositive(n) {
			return 0, 0, api.ErrRange
		}
	}
	if _, e := Product(api.MaxNumber, moduli...); e != api.OK {
		return 0, 0, e
	}
	x, product := 0, 1
	for i, n := range moduli {
		// There is no inverse just if n and one of the moduli before it have a common divisor.
		inverse, e := Inverse(product, n)
		if e != api.OK {
			return 0, 0, e
		}
		missing := residue(residue(remainders[i], n)-x, n)
		x += product * (missing * inverse % n)
		product *= n
	}
	return x, product, api.OK
}
