package bch

import (
	"codewright/api"
	"codewright/number"
)

// farthest is the greatest absolute value of the exponents of a run.
const farthest = 1 << 31

// Check returns the bound that r proves for the zeros, or ErrLength, ErrRange, ErrReject.
func Check(n int, zeros []int, r api.Run) (int, api.Errno) {
	if !isLength(n) {
		return 0, api.ErrLength
	}
	if !isNear(r.Start) || !isNear(r.Step) || !isNear(r.Cross) || r.Count < 1 || r.Count > n || r.More < 0 || r.More > n {
		return 0, api.ErrRange
	}
	if common(r.Step, n) != 1 || r.More > 0 && common(r.Cross, n) > r.Count || !isInside(r, marked(n, zeros)) {
		return 0, api.ErrReject
	}
	return bound(r), api.OK
}

// isNear reports whether x is from -2^31 to 2^31.
func isNear(x int) bool {
	return x >= -farthest && x <= farthest
}

// common returns the greatest common divisor of x and n; it is n for x = 0.
func common(x, n int) int {
	// The remainder has the same common divisors with n as x, and is in the range of Gcd.
	divisor, _ := number.Gcd(remainder(x, n), n)
	return divisor
}

// isInside reports whether all exponents of r are zeros; zeros has an entry for each number below the length.
func isInside(r api.Run, zeros []bool) bool {
	for j := range r.More + 1 {
		for i := range r.Count {
			if !zeros[remainder(r.Start+i*r.Step+j*r.Cross, len(zeros))] {
				return false
			}
		}
	}
	return true
}

// bound returns the bound that r proves for zeros that it is inside of.
func bound(r api.Run) int {
	return r.Count + 1 + r.More
}

// search is a search for a run that proves the greatest bound for zeros.
type search struct {
	zeros []bool
	bound int
	run   api.Run
}

// begin returns a search that has found no run yet.
func begin(n int, zeros []int) *search {
	return &search{zeros: marked(n, zeros), bound: 1}
}

// offer keeps r if it proves more than the runs before.
func (s *search) offer(r api.Run) {
	if bound(r) > s.bound {
		s.bound, s.run = bound(r), r
	}
}

// steps returns numbers without a common divisor with the length, such that each other one is modulo it minus one of these, which has the same runs in the other direction.
func (s *search) steps() []int {
	n := len(s.zeros)
	var list []int
	for step := 1; step <= max(1, n/2); step++ {
		if common(step, n) == 1 {
			list = append(list, step)
		}
	}
	return list
}

// counts returns for each start how many exponents a run with this step has at most.
func (s *search) counts(step int) []int {
	n := len(s.zeros)
	list := make([]int, n)
	for start := range list {
		for list[start] < n && s.zeros[(start+list[start]*step)%n] {
			list[start]++
		}
	}
	return list
}

// Bound returns the greatest bound of Bose, Ray-Chaudhuri and Hocquenghem, and a run that proves it, or ErrLength.
func Bound(n int, zeros []int) (int, api.Run, api.Errno) {
	if !isLength(n) {
		return 0, api.Run{}, api.ErrLength
	}
	s := begin(n, zeros)
	for _, step := range s.steps() {
		for start, count := range s.counts(step) {
			s.offer(api.Run{Start: start, Step: step, Count: count})
		}
	}
	return s.bound, s.run, api.OK
}

// Tzeng returns the greatest bound of Hartmann and Tzeng, and a run that proves it, or ErrLength.
func Tzeng(n int, zeros []int) (int, api.Run, api.Errno) {
	if !isLength(n) {
		return 0, api.Run{}, api.ErrLength
	}
	s := begin(n, zeros)
	for _, step := range s.steps() {
		counts := s.counts(step)
		for cross := range n {
			s.widen(step, cross, counts)
		}
	}
	return s.bound, s.run, api.OK
}

// widen offers the longest runs with this step and this cross step, of each breadth and for each start; counts belong to the step.
func (s *search) widen(step, cross int, counts []int) {
	n, divisor := len(counts), common(cross, len(counts))
	for start, count := range counts {
		r := api.Run{Start: start, Step: step, Count: count}
		s.offer(r)
		for r.Cross = cross; r.More < n; {
			r.More++
			r.Count = min(r.Count, counts[(start+r.More*cross)%n])
			// It is at least 1, so that this also ends runs without exponents.
			if r.Count < divisor {
				break
			}
			s.offer(r)
		}
	}
}
