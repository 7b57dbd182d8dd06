package conv

import (
	"slices"

	"codewright/api"
	"codewright/code"
)

// Terminated returns the code of the terminated outputs of all messages of so many steps, or ErrRange, ErrLength.
func Terminated(c api.Conv, steps int) (api.Code, api.Errno) {
	x, e := open(c)
	if e != api.OK {
		return api.Code{}, e
	}
	return x.block(steps, x.memory())
}

// TailBiting returns the code of the outputs of all messages of so many steps that begin in the state in which they end, or ErrRange, ErrLength.
func TailBiting(c api.Conv, steps int) (api.Code, api.Errno) {
	x, e := open(c)
	if e != api.OK {
		return api.Code{}, e
	}
	return x.block(steps, 0)
}

// block returns the code of the outputs of all messages of so many steps that come again behind a tail of zeros, or ErrRange, ErrLength.
func (x encoder) block(steps, tail int) (api.Code, api.Errno) {
	switch {
	case steps < 1:
		return api.Code{}, api.ErrRange
	case steps > api.MaxN/x.outputs()-tail:
		return api.Code{}, api.ErrLength
	}
	m := api.Matrix{Cols: x.outputs() * (steps + tail)}
	for t := range steps {
		for i := range x.inputs() {
			message := append(make([][]int, t), unit(x.inputs(), i))
			m.Rows = append(m.Rows, slices.Concat(x.encode(message, steps+tail)...))
		}
	}
	return code.New(x.g.Field(), m)
}

// unit returns the list with n entries that are 0, but for 1 at the index i.
func unit(n, i int) []int {
	list := make([]int, n)
	list[i] = 1
	return list
}
