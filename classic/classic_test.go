package classic_test

import (
	"math"
	"slices"
	"testing"

	"codewright/api"
	"codewright/classic"
	"codewright/code"
	"codewright/field"
)

func TestRepetitionAndParity(t *testing.T) {
	for _, g := range fields(t) {
		for n := 1; n <= api.MaxN; n++ {
			ones := make([]int, n)
			parity := api.Code{F: g.Field(), N: n}
			for i := range ones {
				ones[i] = 1
				row := make([]int, n)
				row[i], row[n-1] = 1, g.Neg(1)
				if i < n-1 {
					parity.Gen = append(parity.Gen, row)
				}
			}
			repetition := api.Code{F: g.Field(), N: n, Gen: [][]int{ones}}
			have, e := classic.Repetition(g.Field(), n)
			sameCode(t, have, e, repetition, "P15.1: Repetition", g.Field(), n)
			sameCode(t, dual(t, have), api.OK, parity, "P15.1: the dual of Repetition", g.Field(), n)
			have, e = classic.Parity(g.Field(), n)
			sameCode(t, have, e, parity, "P15.1: Parity", g.Field(), n)
			sameCode(t, dual(t, have), api.OK, repetition, "P15.1: the dual of Parity", g.Field(), n)
		}
	}
}

// TestWordsOfRepetitionAndParity goes through all short words.
func TestWordsOfRepetitionAndParity(t *testing.T) {
	for _, q := range []int{2, 3, 4, 5, 9} {
		g := standard(t, q)
		for n := 1; n <= 4; n++ {
			repetition, _ := classic.Repetition(g.Field(), n)
			parity, _ := classic.Parity(g.Field(), n)
			for _, w := range words(g, n) {
				in, e := code.Has(repetition, w)
				if want := w[0] == slices.Max(w) && w[0] == slices.Min(w); in != want || e != api.OK {
					t.Errorf("P15.1: Repetition(%v, %d): %v: have %v and error %d", g.Field(), n, w, in, e)
				}
				in, e = code.Has(parity, w)
				if want := g.Sum(w...) == 0; in != want || e != api.OK {
					t.Errorf("P15.1: Parity(%v, %d): %v: have %v and error %d", g.Field(), n, w, in, e)
				}
			}
		}
	}
}

func TestErrorsOfRepetitionAndParity(t *testing.T) {
	for _, f := range noFields {
		for _, n := range []int{-1, 0, 1, 64, 65} {
			failed(t, ofLength(f, n), api.ErrField, "P15.1", f, n)
		}
	}
	for _, g := range fields(t) {
		for _, n := range []int{0, -1, 65, 66, 256, 257, math.MaxInt, math.MinInt} {
			failed(t, ofLength(g.Field(), n), api.ErrLength, "P15.1", g.Field(), n)
		}
	}
}

// pointsOf returns the points of order r over g, and whether there are at most MaxN.
func pointsOf(g *field.GF, r int) ([][]int, bool) {
	if r > 7 || r > 2 && g.Order() > 8 || r > 4 && g.Order() > 2 {
		return nil, false
	}
	var list [][]int
	for _, w := range words(g, r) {
		for at, x := range w {
			if x == 1 && weight(w[:at]) == 0 {
				list = append(list, w)
			}
		}
	}
	return list, len(list) <= api.MaxN
}

func TestPoints(t *testing.T) {
	for _, g := range fields(t) {
		orders := 0
		for r := 1; r <= 9; r++ {
			want, few := pointsOf(g, r)
			if !few {
				failed(t, ofOrder(g.Field(), r), api.ErrLength, "P15.2", g.Field(), r)
				continue
			}
			orders++
			have, e := classic.Points(g.Field(), r)
			sameRows(t, have, e, want, "P15.2: Points", g.Field(), r)
			have[0][0] = -1
			if again, _ := classic.Points(g.Field(), r); !sameLists(again, want) {
				t.Errorf("Rules: Points(%v, %d) is not new memory", g.Field(), r)
			}
		}
		counts := map[int]int{2: 6, 3: 4, 4: 3, 5: 3, 7: 3, 61: 2, 64: 1, 256: 1}
		if want := counts[g.Order()]; want > 0 && orders != want {
			t.Errorf("P15.2: Points of %v for %d orders, want %d", g.Field(), orders, want)
		}
	}
}

func TestErrorsOfPoints(t *testing.T) {
	for _, f := range noFields {
		for _, r := range []int{math.MinInt, -1, 0, 1, 2, 9, math.MaxInt} {
			failed(t, ofOrder(f, r), api.ErrField, "P15.2", f, r)
		}
	}
	for _, g := range fields(t) {
		for _, r := range []int{0, -1, -2, math.MinInt} {
			failed(t, ofOrder(g.Field(), r), api.ErrRange, "P15.2", g.Field(), r)
		}
		for _, r := range []int{7, 8, 64, 65, 1 << 32, 1 << 62, math.MaxInt} {
			failed(t, ofOrder(g.Field(), r), api.ErrLength, "P15.2", g.Field(), r)
		}
	}
}

func TestHammingAndSimplex(t *testing.T) {
	for _, g := range fields(t) {
		for r := 1; r <= 6; r++ {
			points, few := pointsOf(g, r)
			if !few {
				continue
			}
			simplex, e := classic.Simplex(g.Field(), r)
			want := generated(t, g, len(points), transposed(points, r))
			sameCode(t, simplex, e, want, "P15.2: Simplex", g.Field(), r)
			hamming, e := classic.Hamming(g.Field(), r)
			sameCode(t, hamming, e, dual(t, want), "P15.2: Hamming", g.Field(), r)
			if len(hamming.Gen) != len(points)-r || len(simplex.Gen) != r {
				t.Errorf("P15.3: Hamming(%v, %d) has the dimension %d", g.Field(), r, len(hamming.Gen))
			}
			for _, w := range hamming.Gen {
				if sum := checked(g, points, w, r); weight(sum) > 0 {
					t.Errorf("P15.2: Hamming(%v, %d): %v has the sum %v", g.Field(), r, w, sum)
				}
			}
			counts := weights(simplex)
			if at := power(g.Order(), r-1); counts[0] != 1 || counts[at] != power(g.Order(), r)-1 {
				t.Errorf("P15.3: Simplex(%v, %d) has the weights %v", g.Field(), r, counts)
			}
		}
	}
}

// transposed returns the r rows with the entries of the points.
func transposed(points [][]int, r int) [][]int {
	rows := make([][]int, r)
	for i := range rows {
		for _, p := range points {
			rows[i] = append(rows[i], p[i])
		}
	}
	return rows
}

// checked returns the sum of the points, each multiplied by the entry of w with its index.
func checked(g *field.GF, points [][]int, w []int, r int) []int {
	sum := make([]int, r)
	for j, p := range points {
		for i, x := range p {
			sum[i] = g.Add(sum[i], g.Mul(w[j], x))
		}
	}
	return sum
}

// power returns q to the power of n.
func power(q, n int) int {
	product := 1
	for range n {
		product *= q
	}
	return product
}

// TestPerfectHamming goes through all words.
func TestPerfectHamming(t *testing.T) {
	for _, x := range [][2]int{{2, 1}, {2, 2}, {2, 3}, {2, 4}, {3, 1}, {3, 2}, {4, 2}, {5, 2}, {7, 1}} {
		g := standard(t, x[0])
		c, e := classic.Hamming(g.Field(), x[1])
		perfect(t, g, c, e, 1, "P15.3: Hamming", x)
	}
}

// perfect reports an error unless each word has a distance of at most radius from just one word of c.
func perfect(t *testing.T, g *field.GF, c api.Code, e api.Errno, radius int, promise string, args ...any) {
	t.Helper()
	if e != api.OK {
		t.Errorf("%s: %v: error %d", promise, args, e)
		return
	}
	q := g.Order()
	near := make([]bool, power(q, c.N))
	balls := ball(g, c.N, radius)
	for _, w := range code.Walk(c) {
		for _, change := range balls {
			index := 0
			for i, x := range w {
				index = index*q + g.Add(x, change[i])
			}
			if near[index] {
				t.Fatalf("%s: %v: two words are near to one", promise, args)
			}
			near[index] = true
		}
	}
	if slices.Contains(near, false) {
		t.Errorf("%s: %v: no word is near to some", promise, args)
	}
}

// ball returns the words of length n whose weight is at most radius.
func ball(g *field.GF, n, radius int) [][]int {
	var list [][]int
	var extend func(w []int, left int)
	extend = func(w []int, left int) {
		if len(w) == n {
			list = append(list, slices.Clone(w))
			return
		}
		extend(append(w, 0), left)
		for x := 1; x < g.Order() && left > 0; x++ {
			extend(append(w, x), left-1)
		}
	}
	extend(nil, radius)
	return list
}

func TestExamples(t *testing.T) {
	two, three := standard(t, 2), standard(t, 3)
	p, e := classic.Points(three.Field(), 2)
	sameRows(t, p, e, digits("01", "10", "11", "12"), "Examples: Points")
	c, e := classic.Hamming(three.Field(), 2)
	sameCode(t, c, e, coded(three, 4, "1012", "0111"), "Examples: Hamming")
	c, e = classic.Hamming(two.Field(), 3)
	sameCode(t, c, e, coded(two, 7, "1000011", "0100101", "0010110", "0001111"), "Examples: Hamming")
	if have := weights(c); !slices.Equal(have, []int{1, 0, 0, 7, 7, 0, 0, 1}) {
		t.Errorf("Examples of DOC.md: the weights of the Hamming code: %v", have)
	}
	c, e = classic.Simplex(two.Field(), 2)
	sameCode(t, c, e, coded(two, 3, "101", "011"), "Examples: Simplex")
	c, e = classic.Hamming(two.Field(), 1)
	sameCode(t, c, e, coded(two, 1), "P15.2: Hamming of order 1")
	c, e = classic.ReedMuller(1, 2)
	sameCode(t, c, e, coded(two, 4, "1001", "0101", "0011"), "Examples: ReedMuller")
	c, e = classic.Residue(7)
	sameCode(t, c, e, generated(t, two, 7, digits("0110100", "0011010", "0001101", "1000110", "0100011", "1010001", "1101000")), "Examples: Residue")
	if have := weights(c); len(c.Gen) != 4 || !slices.Equal(have, []int{1, 0, 0, 7, 7, 0, 0, 1}) {
		t.Errorf("Examples: the weights of Residue(7): %v", have)
	}
}
