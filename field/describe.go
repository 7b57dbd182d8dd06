package field

import (
	"slices"

	"codewright/api"
)

// Check returns OK if f describes a finite field of at most MaxQ elements, and ErrField otherwise.
func Check(f api.Field) api.Errno {
	if f.P > api.MaxQ || !isPrime(f.P) || f.M < 1 || order(f) > api.MaxQ {
		return api.ErrField
	}
	if f.M == 1 {
		return okIf(len(f.Mod) == 0)
	}
	if len(f.Mod) != f.M || slices.ContainsFunc(f.Mod, func(c int) bool { return c < 0 || c >= f.P }) {
		return api.ErrField
	}
	return okIf(isIrreducible(f))
}

// okIf returns OK if what f says holds, and ErrField otherwise.
func okIf(holds bool) api.Errno {
	if holds {
		return api.OK
	}
	return api.ErrField
}

// isPrime reports whether n is a prime.
func isPrime(n int) bool {
	return n >= 2 && leastDivisor(n) == n
}

// leastDivisor returns the least divisor of n other than 1; n is at least 2.
func leastDivisor(n int) int {
	for d := 2; d*d <= n; d++ {
		if n%d == 0 {
			return d
		}
	}
	return n
}

// order returns P to the power of M, or a number greater than MaxQ if the power is; P is from 2 to MaxQ.
func order(f api.Field) int {
	q := 1
	for m := 0; m < f.M && q <= api.MaxQ; m++ {
		q *= f.P
	}
	return q
}

// isIrreducible reports whether the polynomial of f is irreducible, for M greater than 1.
func isIrreducible(f api.Field) bool {
	whole := append(slices.Clone(f.Mod), 1)
	// A reducible polynomial has a monic divisor of at most half its degree.
	for d, count := 1, f.P; 2*d <= f.M; d, count = d+1, count*f.P {
		for low := range count {
			if divides(f.P, digits(f.P, d, low), whole) {
				return false
			}
		}
	}
	return true
}

// divides reports whether the monic polynomial with the low coefficients low divides whole, with coefficients modulo p.
func divides(p int, low, whole []int) bool {
	rest := slices.Clone(whole)
	for top := len(rest) - 1; top >= len(low); top-- {
		for i, c := range low {
			at := top - len(low) + i
			rest[at] = (rest[at] + (p-c)*rest[top]) % p
		}
	}
	return !slices.ContainsFunc(rest[:len(low)], func(c int) bool { return c != 0 })
}

// digits returns the n digits of x in base p, the least significant one first.
func digits(p, n, x int) []int {
	list := make([]int, n)
	for i := range list {
		list[i] = x % p
		x /= p
	}
	return list
}

// fromDigits returns the number with these digits in base p.
func fromDigits(p int, list []int) int {
	x := 0
	for _, d := range slices.Backward(list) {
		x = x*p + d
	}
	return x
}

// Same reports whether f and h have the same P, M and Mod (a nil Mod and an empty one are the same).
func Same(f, h api.Field) bool {
	return f.P == h.P && f.M == h.M && slices.Equal(f.Mod, h.Mod)
}

// Standard returns the description of the standard field of order q.
func Standard(q int) (api.Field, api.Errno) {
	if q < 2 || q > api.MaxQ {
		return api.Field{}, api.ErrRange
	}
	f := api.Field{P: leastDivisor(q), M: 1}
	for order(f) < q {
		f.M++
	}
	if order(f) != q {
		return api.Field{}, api.ErrRange
	}
	if f.M > 1 {
		f.Mod = leastMod(f)
	}
	return f, api.OK
}

// leastMod returns the least Mod with which f describes a field, for M greater than 1. There is one for each P and M.
func leastMod(f api.Field) []int {
	for low := 0; ; low++ {
		f.Mod = digits(f.P, f.M, low)
		if isIrreducible(f) {
			return f.Mod
		}
	}
}
