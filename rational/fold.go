package rational

import (
	"codewright/api"
	"codewright/nat"
)

// Add returns the sum of all terms, and 0 if there are none.
func Add(terms ...api.Rat) api.Rat {
	return fold(terms, zero(), sum)
}

// Sub returns a minus b.
func Sub(a, b api.Rat) api.Rat {
	return sum(a, opposite(b))
}

// Mul returns the product of all factors, and 1 if there are none.
func Mul(factors ...api.Rat) api.Rat {
	return fold(factors, api.Rat{Num: one(), Den: one()}, product)
}

// Div returns a divided by b, or ErrZero.
func Div(a, b api.Rat) (api.Rat, api.Errno) {
	if isZero(b) {
		return api.Rat{}, api.ErrZero
	}
	return product(a, api.Rat{Neg: b.Neg, Num: b.Den, Den: b.Num}), api.OK
}

// Dot returns the sum of the products of the entries with the same index, or ErrShape.
func Dot(a, b []api.Rat) (api.Rat, api.Errno) {
	if len(a) != len(b) {
		return api.Rat{}, api.ErrShape
	}
	total := zero()
	for i := range a {
		total = sum(total, product(a[i], b[i]))
	}
	return total, api.OK
}

// fold joins the entries of list from left to right, and returns empty if there are none.
func fold(list []api.Rat, empty api.Rat, join func(a, b api.Rat) api.Rat) api.Rat {
	if len(list) == 0 {
		return empty
	}
	if len(list) == 1 {
		return Trim(list[0])
	}
	joined := join(list[0], list[1])
	for _, next := range list[2:] {
		joined = join(joined, next)
	}
	return joined
}

// sum returns a plus b.
func sum(a, b api.Rat) api.Rat {
	if isZero(a) {
		return Trim(b)
	}
	if isZero(b) {
		return Trim(a)
	}
	left, right := nat.Mul(a.Num, b.Den), nat.Mul(b.Num, a.Den)
	den := nat.Mul(a.Den, b.Den)
	if a.Neg == b.Neg {
		return reduce(a.Neg, nat.Add(left, right), den)
	}
	switch nat.Cmp(left, right) {
	case 1:
		rest, _ := nat.Sub(left, right)
		return reduce(a.Neg, rest, den)
	case -1:
		rest, _ := nat.Sub(right, left)
		return reduce(b.Neg, rest, den)
	}
	return zero()
}

// product returns a times b.
func product(a, b api.Rat) api.Rat {
	if isZero(a) || isZero(b) {
		return zero()
	}
	return reduce(a.Neg != b.Neg, nat.Mul(a.Num, b.Num), nat.Mul(a.Den, b.Den))
}
