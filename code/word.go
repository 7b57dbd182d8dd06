package code

import (
	"codewright/api"
	"codewright/field"
	"codewright/matrix"
	"codewright/space"
)

// Encode returns the codeword of the message msg, or ErrLength, ErrElement.
func Encode(c api.Code, msg []int) ([]int, api.Errno) {
	if e := checkList(c, msg, len(c.Gen)); e != api.OK {
		return nil, e
	}
	return matrix.Vec(c.F, msg, generator(c))
}

// checkList returns the error of Check, or ErrLength if l does not have n entries, or ErrElement if an entry is not an element.
func checkList(c api.Code, l []int, n int) api.Errno {
	if e := Check(c); e != api.OK {
		return e
	}
	if len(l) != n {
		return api.ErrLength
	}
	return matrix.Check(c.F, api.Matrix{Cols: n, Rows: [][]int{l}})
}

// Message returns the message of the codeword w, or ErrLength, ErrElement, ErrNone.
func Message(c api.Code, w []int) ([]int, api.Errno) {
	if e := checkList(c, w, c.N); e != api.OK {
		return nil, e
	}
	return space.Coordinates(c.F, generator(c), w)
}

// Has reports whether w is a codeword, or returns ErrLength, ErrElement.
func Has(c api.Code, w []int) (bool, api.Errno) {
	if e := checkList(c, w, c.N); e != api.OK {
		return false, e
	}
	return space.Has(c.F, generator(c), w)
}

// Syndrome returns the products of w with the rows of the generator matrix of the dual code, or ErrLength, ErrElement.
func Syndrome(c api.Code, w []int) ([]int, api.Errno) {
	if e := checkList(c, w, c.N); e != api.OK {
		return nil, e
	}
	parity, e := matrix.Kernel(c.F, generator(c))
	if e != api.OK {
		return nil, e
	}
	g, e := field.New(c.F)
	if e != api.OK {
		return nil, e
	}
	list := make([]int, len(parity.Rows))
	for i, row := range parity.Rows {
		list[i] = g.Dot(w, row)
	}
	return list, api.OK
}
