package word

import (
	"iter"

	"codewright/api"
	"codewright/field"
	"codewright/number"
)

// Count returns the number of words of length n, or ErrRange, ErrBig.
func Count(g *field.GF, n int) (int, api.Errno) {
	if n < 0 || n > api.MaxN {
		return 0, api.ErrRange
	}
	return number.Exp(g.Order(), n, api.MaxWords)
}

// Index returns the index of w among the words of its length in lexicographic order, or an error of Count.
func Index(g *field.GF, w []int) (int, api.Errno) {
	if _, e := Count(g, len(w)); e != api.OK {
		return 0, e
	}
	index := 0
	for _, x := range Clean(g, w) {
		index = index*g.Order() + x
	}
	return index, api.OK
}

// FromIndex returns the word of length n with the index i, or an error of Count, ErrRange.
func FromIndex(g *field.GF, n, i int) ([]int, api.Errno) {
	count, e := Count(g, n)
	if e != api.OK {
		return nil, e
	}
	if i < 0 || i >= count {
		return nil, api.ErrRange
	}
	return digits(g.Order(), n, i), api.OK
}

// digits returns the n digits of x in base q, the most significant one first.
func digits(q, n, x int) []int {
	list := make([]int, n)
	for i := n - 1; i >= 0; i-- {
		list[i] = x % q
		x /= q
	}
	return list
}

// Steps returns the steps of the reflected walk from the zero word through all words of length n, or an error of Count.
func Steps(g *field.GF, n int) ([]api.Change, api.Errno) {
	if _, e := Count(g, n); e != api.OK {
		return nil, e
	}
	var steps []api.Change
	last := make([]int, n)
	for w := range Walk(g, n) {
		// The walk begins with the zero word, which adds no step.
		for at, x := range w {
			if x != last[at] {
				steps = append(steps, api.Change{Pos: at, Old: last[at], New: x})
			}
		}
		last = w
	}
	return steps, api.OK
}

// Walk yields all words of length n in the order of the reflected walk.
func Walk(g *field.GF, n int) iter.Seq[[]int] {
	return func(yield func([]int) bool) {
		// With an error the count is 0, so that nothing is yielded.
		count, _ := Count(g, n)
		for t := range count {
			if !yield(reflected(g.Order(), n, t)) {
				return
			}
		}
	}
}

// reflected returns the word number t of the reflected walk through the words of length n with entries below q.
func reflected(q, n, t int) []int {
	w := digits(q, n, t)
	before := 0
	for i, d := range w {
		if before%2 == 1 {
			w[i] = q - 1 - d
		}
		before = before*q + d
	}
	return w
}
