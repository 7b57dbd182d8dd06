package modify

import (
	"codewright/api"
	"codewright/code"
	"codewright/field"
	"codewright/tower"
)

// Subfield returns the code over small of the words whose images are words of c, or ErrField, ErrMatch.
func Subfield(c api.Code, small api.Field) (api.Code, api.Errno) {
	dual, e := code.Dual(c)
	if e != api.OK {
		return api.Code{}, e
	}
	// A word over small has the product 0 with a trace of a word, and with those of all its multiples, just if its image has it with the word (Delsarte).
	traces, e := Trace(dual, small)
	if e != api.OK {
		return api.Code{}, e
	}
	return code.Dual(traces)
}

// Trace returns the code over small of the traces of the words of c, or ErrField, ErrMatch.
func Trace(c api.Code, small api.Field) (api.Code, api.Errno) {
	if e := code.Check(c); e != api.OK {
		return api.Code{}, e
	}
	g, e := field.New(c.F)
	if e != api.OK {
		return api.Code{}, e
	}
	traces, e := tracesTo(small, g)
	if e != api.OK {
		return api.Code{}, e
	}
	sum, e := code.New(small, api.Matrix{Cols: c.N})
	// The powers 1, X, X^2, .. are the ints 1, P, P^2, ..; as many as the degree of the field over small are a basis over it. The traces of the rows are taken for one power at a time, as all together may be more than a matrix has.
	power := 1
	for i := 0; i < c.F.M/small.M && e == api.OK; i++ {
		sum, e = withTraces(sum, g, c.Gen, power, traces)
		power *= c.F.P
	}
	return sum, e
}

// tracesTo returns, for each element x of g, the element of small whose image is the trace of x, or ErrField, ErrMatch.
func tracesTo(small api.Field, g *field.GF) ([]int, api.Errno) {
	images, e := tower.Embed(small, g)
	if e != api.OK {
		return nil, e
	}
	origins := make([]int, g.Order())
	for y, x := range images {
		origins[x] = y
	}
	list := make([]int, g.Order())
	for x := range list {
		trace, e := tower.Trace(g, x, small.M)
		if e != api.OK {
			return nil, e
		}
		list[x] = origins[trace]
	}
	return list, api.OK
}

// withTraces returns the code that c and the traces of the products of the rows and x generate.
func withTraces(c api.Code, g *field.GF, rows [][]int, x int, traces []int) (api.Code, api.Errno) {
	part := api.Matrix{Cols: c.N}
	for _, row := range rows {
		part.Rows = append(part.Rows, mapped(traces, g.Scale(x, row)))
	}
	more, e := code.New(c.F, part)
	if e != api.OK {
		return api.Code{}, e
	}
	return code.Sum(c, more)
}

// mapped returns the entries of table at the indices that l names, in its order.
func mapped(table, l []int) []int {
	out := make([]int, len(l))
	for i, x := range l {
		out[i] = table[x]
	}
	return out
}

// Lift returns the code over big that the images of the words of c generate, or ErrField, ErrMatch.
func Lift(c api.Code, big api.Field) (api.Code, api.Errno) {
	if e := code.Check(c); e != api.OK {
		return api.Code{}, e
	}
	g, e := field.New(big)
	if e != api.OK {
		return api.Code{}, e
	}
	images, e := tower.Embed(c.F, g)
	if e != api.OK {
		return api.Code{}, e
	}
	lifted := api.Matrix{Cols: c.N}
	for _, row := range c.Gen {
		lifted.Rows = append(lifted.Rows, mapped(images, row))
	}
	return code.New(big, lifted)
}
