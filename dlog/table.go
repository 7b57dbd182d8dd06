package dlog

import (
	"codewright/api"
	"codewright/field"
)

// Table is a table of logarithms to a primitive base, made by New.
type Table struct {
	base int
	exp  []int // the power of the base with each exponent from 0 to Q - 2
	log  []int // the exponent of each element; none for 0
	zech []int // the exponent of 1 plus the power with each exponent; none for 0
}

// none stands for the logarithm of 0.
const none = -1

// New returns the table of logarithms to the base b.
func New(g *field.GF, b int) (*Table, api.Errno) {
	if _, e := g.Inv(b); e != api.OK {
		return nil, e
	}
	if !IsPrimitive(g, b) {
		return nil, api.ErrForm
	}
	units := g.Order() - 1
	t := &Table{base: b, exp: make([]int, units), log: make([]int, g.Order()), zech: make([]int, units)}
	t.log[0] = none
	power := 1
	for n := range units {
		t.exp[n], t.log[power] = power, n
		power = g.Mul(power, b)
	}
	for n, x := range t.exp {
		t.zech[n] = t.log[g.Add(1, x)]
	}
	return t, api.OK
}

// Base returns the base.
func (t *Table) Base() int {
	return t.base
}

// Log returns the logarithm of x, or ErrZero.
func (t *Table) Log(x int) (int, api.Errno) {
	if x <= 0 || x >= len(t.log) {
		return 0, api.ErrZero
	}
	return t.log[x], api.OK
}

// Exp returns the base to the power of n.
func (t *Table) Exp(n int) int {
	return t.exp[t.exponent(n)]
}

// exponent returns the least exponent that is not negative for the power with the exponent n.
func (t *Table) exponent(n int) int {
	n %= len(t.exp)
	if n < 0 {
		n += len(t.exp)
	}
	return n
}

// Zech returns the logarithm of 1 + Exp(n), or ErrZero.
func (t *Table) Zech(n int) (int, api.Errno) {
	above := t.zech[t.exponent(n)]
	if above == none {
		return 0, api.ErrZero
	}
	return above, api.OK
}

// Mul returns the product of x and y.
func (t *Table) Mul(x, y int) int {
	m, e := t.Log(x)
	if e != api.OK {
		return 0
	}
	n, e := t.Log(y)
	if e != api.OK {
		return 0
	}
	return t.Exp(m + n)
}

// Add returns the sum of x and y.
func (t *Table) Add(x, y int) int {
	m, e := t.Log(x)
	if e != api.OK {
		return t.Mul(y, 1) // 0 if y is no element
	}
	n, e := t.Log(y)
	if e != api.OK {
		return x
	}
	above, e := t.Zech(n - m)
	if e != api.OK {
		return 0
	}
	return t.Exp(m + above)
}
