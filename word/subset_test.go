package word_test

import (
	"math"
	"math/big"
	"slices"
	"testing"

	"codewright/api"
	"codewright/word"
)

// badLengths are ints that are not from 0 to MaxN.
var badLengths = []int{-1, -64, 65, 66, 1 << 32, math.MaxInt, math.MinInt}

func TestBinomial(t *testing.T) {
	for n := range api.MaxN + 1 {
		for k := range n + 1 {
			want := new(big.Int).Binomial(int64(n), int64(k))
			have, e := word.Binomial(n, k)
			sameInt(t, have, e, int(want.Int64()), "P11.5: Binomial", n, k)
		}
		for _, k := range []int{-1, -2, n + 1, n + 2, 100, math.MaxInt, math.MinInt} {
			have, e := word.Binomial(n, k)
			sameInt(t, have, e, 0, "P11.5: Binomial", n, k)
		}
	}
}

// subsets returns the subsets of size k of the numbers 0 to n-1, in order.
func subsets(n, k int) [][]int {
	var list [][]int
	for set := range 1 << n {
		var s []int
		for i := range n {
			if set>>i&1 == 1 {
				s = append(s, i)
			}
		}
		if len(s) == k {
			list = append(list, s)
		}
	}
	slices.SortFunc(list, func(a, b []int) int {
		if less(a, b) {
			return -1
		}
		return 1
	})
	return list
}

func TestSubsets(t *testing.T) {
	for n := range 11 {
		for k := range n + 1 {
			want := subsets(n, k)
			have, e := word.Subsets(n, k)
			if e != api.OK || !sameLists(have, want) {
				t.Errorf("P11.5: Subsets(%d, %d): have %v and error %d", n, k, have, e)
			}
			for i, s := range want {
				rank, e := word.Rank(n, s)
				sameInt(t, rank, e, i, "P11.5: Rank", n, s)
				set, e := word.Unrank(n, k, i)
				sameList(t, set, e, s, "P11.5: Unrank", n, k, i)
			}
			for _, r := range []int{-1, len(want), len(want) + 1, math.MaxInt, math.MinInt} {
				failed(t, map[string]result{"Unrank": ofList(word.Unrank(n, k, r))}, api.ErrRange, "P11.5", n, k, r)
			}
		}
	}
}

func TestManySubsets(t *testing.T) {
	for n := range api.MaxN + 1 {
		for k := range n + 1 {
			count, _ := word.Binomial(n, k)
			if count > api.MaxWords {
				failed(t, map[string]result{"Subsets": ofLists(word.Subsets(n, k))}, api.ErrBig, "P11.5", n, k)
				continue
			}
			if k > 2 && k < n-2 && n%9 != 0 {
				continue
			}
			list, e := word.Subsets(n, k)
			if e != api.OK || len(list) != count {
				t.Fatalf("P11.5: Subsets(%d, %d): %d subsets and error %d, want %d", n, k, len(list), e, count)
			}
			for i, s := range list {
				if len(s) != k || k > 0 && (s[0] < 0 || s[k-1] >= n) || !slices.IsSorted(s) || i > 0 && !less(list[i-1], s) {
					t.Fatalf("P11.5: Subsets(%d, %d): %v is subset %d", n, k, s, i)
				}
			}
		}
	}
}

func TestGreatRanks(t *testing.T) {
	r := &random{state: 3}
	for _, n := range []int{63, 64} {
		for k := range n + 1 {
			count, _ := word.Binomial(n, k)
			last, e := word.Unrank(n, k, count-1)
			want := []int{}
			for x := n - k; x < n; x++ {
				want = append(want, x)
			}
			sameList(t, last, e, want, "P11.5: Unrank", n, k, count-1)
			rank, e := word.Rank(n, want)
			sameInt(t, rank, e, count-1, "P11.5: Rank", n, want)
			failed(t, map[string]result{"Unrank": ofList(word.Unrank(n, k, count))}, api.ErrRange, "P11.5", n, k, count)
			for range 20 {
				rank := (r.below(1<<31)<<31 + r.below(1<<31)) % count
				s, e := word.Unrank(n, k, rank)
				if e != api.OK || len(s) != k || !slices.IsSorted(s) {
					t.Errorf("P11.5: Unrank(%d, %d, %d): have %v and error %d", n, k, rank, s, e)
				}
				have, e := word.Rank(n, s)
				sameInt(t, have, e, rank, "P11.5: Rank", n, s)
			}
		}
	}
}

func TestErrorsOfSubsets(t *testing.T) {
	for _, n := range badLengths {
		for _, k := range []int{-1, 0, 1, 2, n, math.MaxInt} {
			failed(t, map[string]result{
				"Binomial": ofInt(word.Binomial(n, k)),
				"Subsets":  ofLists(word.Subsets(n, k)),
				"Rank":     ofInt(word.Rank(n, []int{k})),
				"Unrank":   ofList(word.Unrank(n, k, 0)),
			}, api.ErrRange, "P11.5", n, k)
		}
		failed(t, map[string]result{"Rank": ofInt(word.Rank(n, nil))}, api.ErrRange, "P11.5", n)
	}
	for n := range api.MaxN + 1 {
		for _, k := range []int{-1, n + 1, n + 2, math.MaxInt, math.MinInt} {
			failed(t, map[string]result{
				"Subsets": ofLists(word.Subsets(n, k)),
				"Unrank":  ofList(word.Unrank(n, k, 0)),
			}, api.ErrRange, "P11.5", n, k)
		}
		for _, s := range [][]int{{-1}, {n}, {0, 0}, {1, 0}, {0, n}, {0, 2, 1}, {math.MaxInt}, {math.MinInt}, {math.MinInt, math.MaxInt}, make([]int, 100)} {
			failed(t, map[string]result{"Rank": ofInt(word.Rank(n, s))}, api.ErrForm, "P11.5", n, s)
		}
	}
}

func TestSubsetsAreNewMemory(t *testing.T) {
	list, _ := word.Subsets(5, 2)
	for i := range list {
		list[i] = append(list[i], 9)
		list[i][0] = 9
	}
	want, _ := word.Subsets(5, 2)
	for i, s := range list {
		sameList(t, s, api.OK, []int{9, want[i][1], 9}, "Rules: subsets share memory", i)
	}
}
