package conv_test

import (
	"slices"
	"testing"

	"codewright/api"
	"codewright/conv"
	"codewright/field"
	"codewright/poly"
)

// determinant returns the determinant of a square matrix of polynomials, by expansion along its first row.
func determinant(g *field.GF, m [][][]int) []int {
	if len(m) == 0 {
		return []int{1}
	}
	var sum []int
	sign := 1
	for j, p := range m[0] {
		var rest [][][]int
		for _, row := range m[1:] {
			rest = append(rest, slices.Delete(slices.Clone(row), j, j+1))
		}
		sum = poly.Add(g, sum, poly.Scale(g, sign, poly.Mul(g, p, determinant(g, rest))))
		sign = g.Neg(sign)
	}
	return sum
}

// minors returns the greatest common divisor of the determinants of all choices of columns.
func minors(g *field.GF, gen [][][]int) []int {
	var divisor []int
	var choose func(from int, at []int)
	choose = func(from int, at []int) {
		if len(at) == len(gen) {
			var m [][][]int
			for _, row := range gen {
				var part [][]int
				for _, j := range at {
					part = append(part, row[j])
				}
				m = append(m, part)
			}
			divisor = poly.Gcd(g, divisor, determinant(g, m))
			return
		}
		for j := from; j < len(gen[0]); j++ {
			choose(j+1, append(slices.Clone(at), j))
		}
	}
	choose(0, nil)
	return divisor
}

// isPower reports whether p is a power of D.
func isPower(p []int) bool {
	return len(p) > 0 && weight([][]int{p}) == 1 && p[len(p)-1] == 1
}

// isInverse reports whether r is an inverse of Gen, in canonical polynomials.
func isInverse(g *field.GF, gen, r [][][]int) bool {
	if len(r) != len(gen[0]) {
		return false
	}
	for _, row := range r {
		if len(row) != len(gen) || slices.ContainsFunc(row, func(p []int) bool { return !slices.Equal(p, poly.Canon(g, p)) }) {
			return false
		}
	}
	for i, row := range gen {
		for k := range gen {
			var sum, want []int
			for j, p := range row {
				sum = poly.Add(g, sum, poly.Mul(g, p, r[j][k]))
			}
			if i == k {
				want = []int{1}
			}
			if !slices.Equal(sum, want) {
				return false
			}
		}
	}
	return true
}

// inverted reports an error unless Minors, Basic, Catastrophic and Inverse are as they must be for the divisor.
func inverted(t *testing.T, g *field.GF, c api.Conv, divisor []int) {
	t.Helper()
	before := cloned(c)
	have, e := conv.Minors(c)
	sameList(t, have, e, divisor, "P20.4: Minors", c)
	basic := slices.Equal(divisor, []int{1})
	is, e := conv.Basic(c)
	sameBool(t, is, e, basic, "P20.4: Basic", c)
	is, e = conv.Catastrophic(c)
	sameBool(t, is, e, !isPower(divisor), "P20.4: Catastrophic", c)
	r, e := conv.Inverse(c)
	if !basic {
		failed(t, map[string]result{"Inverse": ofInverse(r, e)}, api.ErrNone, "P20.4", c)
	} else if e != api.OK || !isInverse(g, c.Gen, r) {
		t.Errorf("P20.4: Inverse(%v): have %v and error %d", c, r, e)
	}
	if !same(c, before) {
		t.Errorf("Rules: an argument is changed: %v", before)
	}
	for _, row := range r {
		for _, p := range row {
			_ = append(p, -1)
		}
	}
	if basic && !isInverse(g, c.Gen, r) {
		t.Errorf("Rules: the inverse of %v shares memory with itself", c)
	}
}

// TestMinors compares with all determinants.
func TestMinors(t *testing.T) {
	count := map[string]int{}
	encoders(t, 1<<16, 6, func(_ *random, g *field.GF, c api.Conv) {
		if len(c.Gen) > 4 {
			return
		}
		divisor := minors(g, c.Gen)
		switch {
		case len(divisor) == 0:
			count["zero"]++
		case len(divisor) == 1:
			count["one"]++
		case isPower(divisor):
			count["power"]++
		default:
			count["other"]++
		}
		inverted(t, g, c, divisor)
	})
	for _, kind := range []string{"zero", "one", "power", "other"} {
		if count[kind] < 3 {
			t.Errorf("too few encoders with the divisor %s: %v", kind, count)
		}
	}
}

// TestGreatMinors has encoders with a square part that is triangular, whose other columns are combinations of it.
func TestGreatMinors(t *testing.T) {
	r := &random{state: 3}
	for _, g := range fields(t) {
		most := 0
		for power(g.Order(), most+1) <= api.MaxWords {
			most++
		}
		for k := 1; k <= most; k++ {
			for _, n := range []int{k, k + 1, 2 * k, 20, api.MaxN} {
				degrees := make([]int, k)
				for range most - k {
					degrees[r.below(k)]++
				}
				c, divisor := r.triangular(g, max(n, k), degrees)
				if e := conv.Check(c); e != api.OK {
					t.Fatal(c, e)
				}
				inverted(t, g, c, divisor)
			}
		}
	}
}

// triangular returns an encoder with n outputs whose rows have at most these degrees, and its divisor: that of its square part, which is triangular.
func (r *random) triangular(g *field.GF, n int, degrees []int) (api.Conv, []int) {
	c, product := api.Conv{F: g.Field()}, []int{1}
	k := len(degrees)
	for i, degree := range degrees {
		row := make([][]int, k)
		for j := range i {
			row[j] = poly.Canon(g, r.list(g, degree+1, 2))
		}
		row[i] = [][]int{{1}, append(make([]int, degree), 1), append(r.list(g, degree, 2), 1)}[r.below(3)]
		product = poly.Mul(g, product, row[i])
		c.Gen = append(c.Gen, row)
	}
	for j := k; j < n; j++ {
		factors := r.list(g, k, 2)
		for i, row := range c.Gen {
			var sum []int
			for at, factor := range factors {
				sum = poly.Add(g, sum, poly.Scale(g, factor, row[at]))
			}
			c.Gen[i] = append(row, sum)
		}
	}
	for range n {
		a, b := r.below(n), r.below(n)
		for _, row := range c.Gen {
			row[a], row[b] = row[b], row[a]
		}
	}
	for range k {
		a, b := r.below(k), r.below(k)
		c.Gen[a], c.Gen[b] = c.Gen[b], c.Gen[a]
	}
	return c, product
}

// hasCircle reports whether there is a circle of states with outputs of zeros only, other than that of inputs of zeros in the state 0.
func hasCircle(g *field.GF, c api.Conv) bool {
	after := make([][]int, states(g, c))
	for state := range after {
		for _, in := range words(g, len(c.Gen)) {
			next, out := step(g, c, state, in)
			if weight([][]int{out}) == 0 && (state != 0 || weight([][]int{in}) > 0) {
				after[state] = append(after[state], next)
			}
		}
	}
	// A state from which no way goes on for long enough is in no circle.
	goesOn := make([]bool, len(after))
	for i := range goesOn {
		goesOn[i] = true
	}
	for range after {
		for state, list := range after {
			goesOn[state] = goesOn[state] && slices.ContainsFunc(list, func(next int) bool { return goesOn[next] })
		}
	}
	return slices.Contains(goesOn, true)
}

func TestCatastrophic(t *testing.T) {
	encoders(t, 1<<9, 4, func(_ *random, g *field.GF, c api.Conv) {
		have, e := conv.Catastrophic(c)
		sameBool(t, have, e, hasCircle(g, c), "P20.7: Catastrophic", c)
	})
}
