package word

import (
	"math"
	"slices"

	"codewright/api"
	"codewright/number"
)

// Binomial returns the number of subsets of size k of a set of n elements, or ErrRange.
func Binomial(n, k int) (int, api.Errno) {
	if n < 0 || n > api.MaxN {
		return 0, api.ErrRange
	}
	if k < 0 {
		return 0, api.OK
	}
	// Even the number of subsets of size 32 of 64 elements is an int.
	return number.Choose(n, k, math.MaxInt)
}

// countSubsets returns the number of subsets of size k, or ErrRange if there is no such size.
func countSubsets(n, k int) (int, api.Errno) {
	if k < 0 || k > n {
		return 0, api.ErrRange
	}
	return Binomial(n, k)
}

// Subsets returns the subsets of size k of the numbers 0 to n - 1 in lexicographic order, or ErrRange, ErrBig.
func Subsets(n, k int) ([][]int, api.Errno) {
	count, e := countSubsets(n, k)
	if e != api.OK {
		return nil, e
	}
	if count > api.MaxWords {
		return nil, api.ErrBig
	}
	list := make([][]int, count)
	s := make([]int, k)
	ascend(s, 0)
	for i := range list {
		list[i] = slices.Clone(s)
		advance(n, s)
	}
	return list, api.OK
}

// ascend makes the entries of s the numbers from first on.
func ascend(s []int, first int) {
	for i := range s {
		s[i] = first + i
	}
}

// advance makes s the next subset of its size, or leaves the last one as it is.
func advance(n int, s []int) {
	for i := len(s) - 1; i >= 0; i-- {
		// Behind s[i] there must be room for the entries that follow it.
		if s[i] < n-len(s)+i {
			ascend(s[i:], s[i]+1)
			return
		}
	}
}

// Rank returns the index of the subset s among those of its size in lexicographic order, or ErrRange, ErrForm.
func Rank(n int, s []int) (int, api.Errno) {
	if n < 0 || n > api.MaxN {
		return 0, api.ErrRange
	}
	if !isSubset(n, s) {
		return 0, api.ErrForm
	}
	rank, least := 0, 0
	for i, x := range s {
		for y := least; y < x; y++ {
			rank += countFrom(n, y, len(s)-i)
		}
		least = x + 1
	}
	return rank, api.OK
}

// isSubset reports whether s is a strictly ascending list of ints from 0 to n-1.
func isSubset(n int, s []int) bool {
	last := -1
	for _, x := range s {
		if x <= last || x >= n {
			return false
		}
		last = x
	}
	return true
}

// countFrom returns the number of subsets of size k whose least entry is first; first is from 0 to n-1.
func countFrom(n, first, k int) int {
	count, _ := Binomial(n-1-first, k-1)
	return count
}

// Unrank returns the subset of size k with the index r, or ErrRange.
func Unrank(n, k, r int) ([]int, api.Errno) {
	count, e := countSubsets(n, k)
	if e != api.OK {
		return nil, e
	}
	if r < 0 || r >= count {
		return nil, api.ErrRange
	}
	s := make([]int, 0, k)
	for x := 0; len(s) < k; x++ {
		if count := countFrom(n, x, k-len(s)); r < count {
			s = append(s, x)
		} else {
			r -= count
		}
	}
	return s, api.OK
}
