package word_test

import (
	"math"
	"slices"
	"testing"

	"codewright/api"
	"codewright/field"
	"codewright/word"
)

// random is a generator of numbers that are the same in each run.
type random struct{ state uint64 }

func (r *random) below(n int) int {
	r.state = r.state*6364136223846793005 + 1442695040888963407
	return int(r.state >> 33 % uint64(n))
}

// list returns n ints, some of which are not elements of g.
func (r *random) list(g *field.GF, n int) []int {
	l := make([]int, n)
	for i := range l {
		l[i] = r.below(g.Order())
		if r.below(4) == 0 {
			l[i] = strangers(g)[r.below(len(strangers(g)))]
		}
	}
	return l
}

// strangers are ints that are not elements of g.
func strangers(g *field.GF) []int {
	return []int{-1, g.Order(), g.Order() + 1, -g.Order(), 1 << 32, math.MaxInt, math.MinInt}
}

// standard returns the standard field of order q.
func standard(t *testing.T, q int) *field.GF {
	t.Helper()
	f, e := field.Standard(q)
	if e != api.OK {
		t.Fatal(q, e)
	}
	g, e := field.New(f)
	if e != api.OK {
		t.Fatal(f, e)
	}
	return g
}

// fields returns standard fields of many orders.
func fields(t *testing.T) []*field.GF {
	t.Helper()
	var list []*field.GF
	for _, q := range []int{2, 3, 4, 5, 7, 8, 9, 16, 25, 27, 41, 64, 81, 128, 243, 251, 256} {
		list = append(list, standard(t, q))
	}
	return list
}

// power returns q to the power of n, or -1 if it exceeds MaxWords.
func power(q, n int) int {
	p := 1
	for range n {
		if p *= q; p > api.MaxWords {
			return -1
		}
	}
	return p
}

// listed returns all lists of n ints below q, the later entries changing faster.
func listed(q, n int) [][]int {
	if n == 0 {
		return [][]int{{}}
	}
	var list [][]int
	for _, w := range listed(q, n-1) {
		for x := range q {
			list = append(list, append(slices.Clone(w), x))
		}
	}
	return list
}

// sameLists reports whether a and b have the same lists.
func sameLists(a, b [][]int) bool {
	return slices.EqualFunc(a, b, slices.Equal)
}

// collected returns the words of the walk.
func collected(g *field.GF, n int) [][]int {
	var list [][]int
	for w := range word.Walk(g, n) {
		list = append(list, w)
	}
	return list
}

// result is what a function returns: its error, and whether all else is the zero value.
type result struct {
	e    api.Errno
	zero bool
}

func ofInt(n int, e api.Errno) result            { return result{e, n == 0} }
func ofList(l []int, e api.Errno) result         { return result{e, len(l) == 0} }
func ofLists(l [][]int, e api.Errno) result      { return result{e, len(l) == 0} }
func ofSteps(l []api.Change, e api.Errno) result { return result{e, len(l) == 0} }

// failed reports an error unless all results have the error want, and no value.
func failed(t *testing.T, results map[string]result, want api.Errno, promise string, args ...any) {
	t.Helper()
	for name, r := range results {
		if r.e != want || !r.zero {
			t.Errorf("%s: %s of %v: have error %d, want error %d and no value", promise, name, args, r.e, want)
		}
	}
}

// sameInt reports an error unless have is want, and e is OK.
func sameInt(t *testing.T, have int, e api.Errno, want int, promise string, args ...any) {
	t.Helper()
	if e != api.OK || have != want {
		t.Errorf("%s: %v: have %d and error %d, want %d", promise, args, have, e, want)
	}
}

// sameList reports an error unless have is want, and e is OK.
func sameList(t *testing.T, have []int, e api.Errno, want []int, promise string, args ...any) {
	t.Helper()
	if e != api.OK || !slices.Equal(have, want) {
		t.Errorf("%s: %v: have %v and error %d, want %v", promise, args, have, e, want)
	}
}
