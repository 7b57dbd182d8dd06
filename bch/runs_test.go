package bch_test

import (
	"math"
	"slices"
	"testing"

	"codewright/api"
	"codewright/bch"
	"codewright/field"
)

// proves reports whether r proves its bound, from the definition.
func proves(n int, zeros []int, r api.Run) bool {
	if r.Count < 1 || r.Count > n || r.More < 0 || r.More > n || divisor(remainder(r.Step, n), n) != 1 {
		return false
	}
	if r.More > 0 && divisor(remainder(r.Cross, n), n) > r.Count {
		return false
	}
	in := make([]bool, n)
	for _, z := range zeros {
		in[remainder(z, n)] = true
	}
	for i := range r.Count {
		for j := range r.More + 1 {
			if !in[remainder(r.Start+i*r.Step+j*r.Cross, n)] {
				return false
			}
		}
	}
	return true
}

// checked reports an error unless Check returns what the definition says.
func checked(t *testing.T, n int, zeros []int, r api.Run) {
	t.Helper()
	have, e := bch.Check(n, zeros, r)
	want, err := r.Count+1+r.More, api.OK
	if !proves(n, zeros, r) {
		want, err = 0, api.ErrReject
	}
	if have != want || e != err {
		t.Errorf("P17.5: Check(%d, %v, %v): have %d and error %d, want %d and error %d", n, zeros, r, have, e, want, err)
	}
}

// TestCheck goes through all runs of short lengths, and many of all lengths.
func TestCheck(t *testing.T) {
	r := &random{state: 6}
	for n := 1; n <= 8; n++ {
		for range 3 {
			zeros := r.exponents(r.below(2*n), n)
			for _, run := range runs(n) {
				checked(t, n, zeros, run)
			}
		}
	}
	for n := 1; n <= api.MaxN; n++ {
		for range 400 {
			checked(t, n, r.exponents(r.below(6*n), n), r.run(n))
		}
		for range 400 {
			run := r.run(n)
			run.Step = []int{1, -1, n + 1, 1 - 5*n}[r.below(4)]
			run.Cross *= r.below(2)
			checked(t, n, r.within(n, run), run)
		}
	}
}

// run returns a run for the length n.
func (r *random) run(n int) api.Run {
	far := r.exponents(3, n)
	return api.Run{Start: far[0], Step: far[1], Count: 1 + r.below(r.below(n)+1), Cross: far[2], More: r.below(r.below(n+1) + 1)}
}

// within returns the exponents of the run, sometimes without one of them.
func (r *random) within(n int, run api.Run) []int {
	var zeros []int
	for i := range run.Count {
		for j := range run.More + 1 {
			zeros = append(zeros, remainder(run.Start+i*run.Step+j*run.Cross, n))
		}
	}
	if r.below(3) == 0 {
		last := zeros[len(zeros)-1]
		zeros = slices.DeleteFunc(zeros, func(x int) bool { return x == last })
	}
	return zeros
}

// runs returns all runs with a start and steps from 0 to n-1.
func runs(n int) []api.Run {
	var list []api.Run
	for start := range n {
		for step := range n {
			for count := 1; count <= n; count++ {
				for cross := range n {
					for more := range n + 1 {
						list = append(list, api.Run{Start: start, Step: step, Count: count, Cross: cross, More: more})
					}
				}
			}
		}
	}
	return list
}

// TestCheckOfEdges has the numbers at the ends of their ranges.
func TestCheckOfEdges(t *testing.T) {
	whole := []int{0, 1, 2, 3, 4, 5, 6, 7, 8}
	for _, x := range []int{-1 << 31, 1<<31 - 1, 1 << 31} {
		for n := 1; n <= 9; n++ {
			for _, run := range []api.Run{{Start: x, Step: 1, Count: 1}, {Step: x, Count: 1}, {Step: 1, Count: 1, Cross: x, More: 1}, {Start: x, Step: x, Count: n, Cross: x, More: n}} {
				checked(t, n, whole, run)
				checked(t, n, []int{0, math.MinInt, math.MaxInt}, run)
			}
		}
	}
	for _, x := range []struct {
		n     int
		zeros []int
		r     api.Run
		want  int
	}{
		{1, []int{5}, api.Run{Count: 1}, 2},
		{1, []int{5}, api.Run{Count: 1, More: 1}, 3},
		{4, []int{0, 1, 2, 3}, api.Run{Step: 1, Count: 4, More: 4}, 9},
		{4, []int{0, 1, 2, 3}, api.Run{Step: 1, Count: 3, More: 4}, 0},
		{4, []int{0, 1, 2, 3}, api.Run{Step: 2, Count: 1}, 0},
		{6, []int{1, 3}, api.Run{Start: 1, Step: 1, Count: 1, Cross: 2, More: 1}, 0},
		{6, []int{1, 2, 3, 4}, api.Run{Start: 1, Step: 1, Count: 2, Cross: 2, More: 1}, 4},
		{6, []int{1, 3}, api.Run{Start: 1, Step: 1, Count: 1, Cross: 2}, 2},
		{6, nil, api.Run{Start: 1, Step: 1, Count: 1}, 0},
	} {
		checked(t, x.n, x.zeros, x.r)
		if have, _ := bch.Check(x.n, x.zeros, x.r); have != x.want {
			t.Errorf("P17.5: Check(%d, %v, %v): have %d, want %d", x.n, x.zeros, x.r, have, x.want)
		}
	}
}

func TestErrorsOfCheck(t *testing.T) {
	of := func(n int, r api.Run) map[string]result {
		return map[string]result{"Check": ofInt(bch.Check(n, []int{0, 1, 2, 3, 4, 5, 6}, r))}
	}
	bad := []api.Run{
		{Step: 1}, {Step: 1, Count: -1}, {Step: 1, Count: 8}, {Step: 1, Count: math.MaxInt}, {Step: 1, Count: math.MinInt},
		{Step: 1, Count: 1, More: -1}, {Step: 1, Count: 1, More: 8}, {Step: 1, Count: 1, More: math.MaxInt}, {Step: 1, Count: 1, More: math.MinInt},
	}
	for _, x := range []int{math.MinInt, -1<<31 - 1, 1<<31 + 1, math.MaxInt} {
		bad = append(bad, api.Run{Start: x, Step: 1, Count: 1}, api.Run{Step: x, Count: 1}, api.Run{Step: 1, Cross: x, Count: 1})
	}
	for _, run := range bad {
		failed(t, of(7, run), api.ErrRange, "P17.5", run)
		for _, n := range badLengths {
			failed(t, of(n, run), api.ErrLength, "P17.5", n, run)
		}
		run.Step = 0
		failed(t, of(7, api.Run{Count: run.Count, Start: run.Start, Cross: run.Cross, More: 9}), api.ErrRange, "P17.5", run)
	}
	failed(t, of(7, api.Run{Count: 1}), api.ErrReject, "P17.5", "step 0")
	for _, n := range badLengths {
		failed(t, of(n, api.Run{Step: 1, Count: 1}), api.ErrLength, "P17.5", n)
		failed(t, map[string]result{"Bound": ofRun(bch.Bound(n, []int{0, 1})), "Tzeng": ofRun(bch.Tzeng(n, []int{0, 1}))}, api.ErrLength, "P17.6", n)
	}
}

// greatest returns the greatest bounds that runs prove, without and with cross steps, from the definition.
func greatest(n int, zeros []int) (bound, best int) {
	bound, best = 1, 1
	for _, r := range runs(n) {
		value := r.Count + 1 + r.More
		if value <= best && (r.More > 0 || value <= bound) || !proves(n, zeros, r) {
			continue
		}
		best = max(best, value)
		if r.More == 0 {
			bound = max(bound, value)
		}
	}
	return bound, best
}

// bounds returns the bounds of Bound and Tzeng, and reports an error unless their runs prove them.
func bounds(t *testing.T, n int, zeros []int) (int, int) {
	t.Helper()
	before := slices.Clone(zeros)
	bound, r, e := bch.Bound(n, zeros)
	best, s, err := bch.Tzeng(n, zeros)
	if e != api.OK || err != api.OK || !slices.Equal(zeros, before) {
		t.Fatalf("P17.6: Bound or Tzeng of %d and %v: errors %d and %d, the zeros are now %v", n, before, e, err, zeros)
	}
	if r.Cross != 0 || r.More != 0 {
		t.Errorf("P17.6: Bound(%d, %v) has the run %v", n, zeros, r)
	}
	proven(t, n, zeros, bound, r)
	proven(t, n, zeros, best, s)
	if best < bound {
		t.Errorf("P17.7: Tzeng(%d, %v) is %d, and Bound is %d", n, zeros, best, bound)
	}
	return bound, best
}

// proven reports an error unless r proves the bound, or the bound is 1 and r is zero.
func proven(t *testing.T, n int, zeros []int, bound int, r api.Run) {
	t.Helper()
	if bound == 1 && r == (api.Run{}) && len(zeros) == 0 {
		return
	}
	if have, e := bch.Check(n, zeros, r); have != bound || e != api.OK || !proves(n, zeros, r) {
		t.Errorf("P17.6: %d with the run %v for %d and %v: Check has %d and error %d", bound, r, n, zeros, have, e)
	}
}

// TestBounds goes through all runs, for all sets of zeros of short lengths and some of others.
func TestBounds(t *testing.T) {
	r := &random{state: 7}
	for n := 1; n <= 12; n++ {
		for set := range min(1<<n, 40) {
			if n > 5 {
				set = r.below(1<<n) | r.below(1<<n)*r.below(2)
			}
			var zeros []int
			for i := range n {
				if set>>i&1 == 1 {
					zeros = append(zeros, i-n*r.below(3))
				}
			}
			if n > 8 && set%8 > 0 {
				continue
			}
			bound, best := bounds(t, n, zeros)
			if x, y := greatest(n, zeros); bound != x || best != y {
				t.Errorf("P17.6: for %d and %v: Bound %d and Tzeng %d, want %d and %d", n, zeros, bound, best, x, y)
			}
		}
	}
}

// TestBoundsOfRuns has zeros that runs of all kinds make, of all lengths: their bounds are at least those of the runs.
func TestBoundsOfRuns(t *testing.T) {
	r := &random{state: 8}
	for n := 1; n <= api.MaxN; n++ {
		for range max(4, 24-n) {
			run := r.run(n)
			run.Step = r.unit(n)
			if divisor(remainder(run.Cross, n), n) > run.Count {
				run.Cross = r.unit(n)
			}
			var zeros []int
			for i := range run.Count {
				for j := range run.More + 1 {
					zeros = append(zeros, run.Start+i*run.Step+j*run.Cross)
				}
			}
			bound, best := bounds(t, n, zeros)
			if bound < run.Count+1 || best < run.Count+1+run.More {
				t.Errorf("P17.6: for %d and the exponents of %v: Bound %d and Tzeng %d", n, run, bound, best)
			}
			grown(t, r, n, zeros, bound, best)
		}
	}
}

// unit returns an int without a common divisor with n.
func (r *random) unit(n int) int {
	x := 1 + r.below(n)
	for divisor(x, n) != 1 {
		x = 1 + r.below(n)
	}
	return x
}

// grown reports an error if another zero, or the multiplication by a unit, makes one of the bounds of the zeros smaller.
func grown(t *testing.T, r *random, n int, zeros []int, bound, best int) {
	t.Helper()
	added := append(slices.Clone(zeros), r.below(n))
	if x, y := bounds(t, n, added); x < bound || y < best {
		t.Errorf("P17.7: for %d and %v: Bound %d and Tzeng %d, for %v less", n, zeros, bound, best, added)
	}
	unit := r.unit(n)
	var times []int
	for _, z := range zeros {
		times = append(times, z*unit)
	}
	if x, y := bounds(t, n, times); x != bound || y != best {
		t.Errorf("P17.7: for %d and %v: Bound %d and Tzeng %d, for %v Bound %d and Tzeng %d", n, zeros, bound, best, times, x, y)
	}
}

// TestBoundsOfCodes compares the bounds with the least weights of codes.
func TestBoundsOfCodes(t *testing.T) {
	r := &random{state: 9}
	for _, x := range [][3]int{{2, 8, 7}, {2, 64, 9}, {2, 16, 15}, {2, 64, 21}, {2, 256, 17}, {2, 256, 51}, {2, 64, 63}, {3, 9, 8}, {3, 27, 13}, {3, 81, 16}, {3, 81, 20}, {4, 16, 15}, {4, 64, 21}, {4, 256, 17}, {5, 25, 12}, {5, 25, 24}, {8, 8, 7}, {7, 7, 6}, {16, 16, 15}} {
		small, big, n := standard(t, x[0]), standard(t, x[1]), x[2]
		for range 40 {
			weighed(t, small, big, n, closure(x[0], n, r.exponents(1+r.below(n), n)))
		}
	}
}

// weighed reports an error if a bound is above the least weight of the code with these zeros.
func weighed(t *testing.T, small, big *field.GF, n int, zeros []int) {
	t.Helper()
	k := n - len(zeros)
	if k == 0 || count(small.Order(), k, 1<<11) == 1<<11 {
		return
	}
	c, e := bch.FromZeros(small.Field(), big.Field(), n, zeros)
	if e != api.OK {
		t.Fatal(e)
	}
	least := leastWeight(c)
	if bound, best := bounds(t, n, zeros); bound > least || best > least {
		t.Errorf("P17.7: the code over %v of length %d with the zeros %v has a word of weight %d; Bound %d, Tzeng %d", small.Field(), n, zeros, least, bound, best)
	}
}

func TestExamplesOfBounds(t *testing.T) {
	for _, x := range []struct {
		n     int
		zeros []int
		r     api.Run
		want  int
	}{{21, []int{1, 2, 4, 8, 11, 16, 3, 6, 12}, api.Run{Start: 1, Step: 1, Count: 4}, 5}, {7, []int{1, 2, 4}, api.Run{Start: 1, Step: 1, Count: 2}, 3}} {
		if have, e := bch.Check(x.n, x.zeros, x.r); have != x.want || e != api.OK {
			t.Errorf("Examples: Check(%d, %v, %v): have %d and error %d", x.n, x.zeros, x.r, have, e)
		}
	}
	for _, x := range []struct {
		n           int
		zeros       []int
		bound, best int
	}{
		{7, []int{1, 2, 4}, 3, 3},
		{7, []int{1, 2, 3, 4, 5, 6}, 7, 7},
		{7, []int{0, 1, 2, 3, 4, 5, 6}, 8, 15},
		{7, nil, 1, 1},
		{1, []int{0}, 2, 3},
		{1, nil, 1, 1},
		// The bounds of these were also found by a search through all runs.
		{15, closure(2, 15, []int{3, 5}), 3, 4},
		{17, closure(2, 17, []int{3}), 4, 5},
		{21, []int{1, 2, 4, 8, 11, 16, 3, 6, 12}, 5, 5},
		{31, closure(2, 31, []int{1, 15}), 4, 5},
		{33, closure(2, 33, []int{3, 5}), 5, 7},
		{39, []int{1, 2, 3, 4, 5, 6, 8, 9, 10, 11, 12, 13, 15, 16, 18, 20, 21, 22, 24, 25, 26, 27, 30, 32, 33, 36}, 7, 8},
	} {
		bound, best := bounds(t, x.n, x.zeros)
		if bound != x.bound || best != x.best {
			t.Errorf("Examples: for %d and %v: Bound %d and Tzeng %d, want %d and %d", x.n, x.zeros, bound, best, x.bound, x.best)
		}
	}
}
