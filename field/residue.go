package field

import "codewright/api"

// powers returns the powers of x, from the exponent 0 to the last one before 1 comes again; x is not 0, and f describes a field.
func powers(f api.Field, x int) []int {
	list := make([]int, 0, order(f))
	list = append(list, 1)
	factor, power, next := digits(f.P, f.M, x), digits(f.P, f.M, x), make([]int, f.M)
	for x != 1 {
		list = append(list, x)
		product(f, next, power, factor)
		power, next = next, power
		x = fromDigits(f.P, power)
	}
	return list
}

// product makes out the product of the residues a and b modulo the polynomial of f, all given by their coefficients.
func product(f api.Field, out, a, b []int) {
	clear(out)
	top := f.M - 1
	for top > 0 && b[top] == 0 {
		top--
	}
	for i := top; i >= 0; i-- {
		timesX(f, out)
		for j, c := range a {
			out[j] = (out[j] + b[i]*c) % f.P
		}
	}
}

// timesX multiplies a residue by X; for M = 1 the residue must be 0.
func timesX(f api.Field, a []int) {
	top := a[f.M-1]
	copy(a[1:], a)
	a[0] = 0
	if top == 0 {
		return
	}
	for i, c := range f.Mod {
		a[i] = (a[i] + (f.P-c)*top) % f.P
	}
}

// successor returns the sum of 1 and the element x.
func successor(f api.Field, x int) int {
	if x%f.P == f.P-1 {
		return x - x%f.P
	}
	return x + 1
}
