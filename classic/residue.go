package classic

import (
	"slices"

	"codewright/api"
	"codewright/code"
	"codewright/number"
)

// Residue returns the binary quadratic residue code of length n, or ErrRange.
func Residue(n int) (api.Code, api.Errno) {
	if n > api.MaxN || !number.Prime(n) || n%8 != 1 && n%8 != 7 {
		return api.Code{}, api.ErrRange
	}
	word := make([]int, n)
	for i := 1; i < n; i++ {
		word[i*i%n] = 1
	}
	if n%8 == 1 {
		word[0] = 1
	}
	return shifted(binary(), word)
}

// shifted returns the code over f that the cyclic shifts of the word generate.
func shifted(f api.Field, word []int) (api.Code, api.Errno) {
	m := api.Matrix{Cols: len(word), Rows: make([][]int, len(word))}
	for i := range m.Rows {
		m.Rows[i] = slices.Concat(word[i:], word[:i])
	}
	return code.New(f, m)
}

// Golay returns the perfect Golay code over the field of 2 or 3 elements, or ErrRange.
func Golay(q int) (api.Code, api.Errno) {
	switch q {
	case 2:
		return Residue(23)
	case 3:
		return shifted(api.Field{P: 3, M: 1}, []int{2, 0, 1, 2, 1, 1, 0, 0, 0, 0, 0})
	}
	return api.Code{}, api.ErrRange
}
