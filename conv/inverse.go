package conv

import (
	"slices"

	"codewright/api"
	"codewright/field"
	"codewright/poly"
)

// A sum is a sum of columns of Gen: each multiplied by its entry of factors, and all together value.
type sum struct{ value, factors [][]int }

// A place is the part of a list of polynomials that is removed first: the polynomial at an index, and its degree; the degree is -1 for zero polynomials only.
type place struct{ at, degree int }

// An order tells the first place of a list of canonical polynomials.
type order func(value [][]int) place

// byDegree is the order by degrees, and then by indices: the last polynomial of the greatest degree is first.
func byDegree(value [][]int) place {
	first := place{0, -1}
	for at, p := range value {
		if degree := len(p) - 1; degree >= first.degree {
			first = place{at, degree}
		}
	}
	return first
}

// byIndex is the order by indices alone: the last polynomial other than 0 is first.
func byIndex(value [][]int) place {
	for at, p := range slices.Backward(value) {
		if len(p) > 0 {
			return place{at, len(p) - 1}
		}
	}
	return place{0, -1}
}

// A basis has a sum for each index that is the index of its first place, or an empty one. All combinations of the sums that it was given are combinations of these.
type basis struct {
	g     *field.GF
	first order
	sums  []sum
}

// newBasis returns a basis of the sums, whose values have size polynomials.
func newBasis(g *field.GF, first order, size int, sums []sum) basis {
	b := basis{g, first, make([]sum, size)}
	for _, s := range sums {
		b.add(s)
	}
	return b
}

// add makes the combinations with s combinations of the basis.
func (b basis) add(s sum) {
	// By Euclid's algorithm: each time round, the first place of s comes nearer to the end of the order.
	for b.first(s.value).degree >= 0 {
		at := b.first(s.value).at
		if b.isEmpty(at) {
			b.sums[at] = s
			return
		}
		if b.degree(at) > b.first(s.value).degree {
			b.sums[at], s = s, b.sums[at]
		}
		s = b.reduced(s, at)
	}
}

// isEmpty reports whether there is no sum for the index.
func (b basis) isEmpty(at int) bool {
	return len(b.sums[at].value) == 0
}

// degree returns the degree of the first place of the sum for the index.
func (b basis) degree(at int) int {
	return b.first(b.sums[at].value).degree
}

// reduced returns s less the multiple of the sum for the index that makes the degree at this index lower than the sum's.
func (b basis) reduced(s sum, at int) sum {
	other := b.sums[at]
	// The divisor is not 0.
	quo, _, _ := poly.DivMod(b.g, s.value[at], other.value[at])
	return sum{b.minus(s.value, quo, other.value), b.minus(s.factors, quo, other.factors)}
}

// minus returns the polynomials of l, less the products of quo and those of other.
func (b basis) minus(l [][]int, quo []int, other [][]int) [][]int {
	out := make([][]int, len(l))
	for i, p := range l {
		out[i] = poly.Sub(b.g, p, poly.Mul(b.g, quo, other[i]))
	}
	return out
}

// isWhole reports whether all lists of polynomials are combinations of the values of a basis in the order byDegree.
func (b basis) isWhole() bool {
	for at := range b.sums {
		if b.isEmpty(at) || b.degree(at) > 0 {
			return false
		}
	}
	return true
}

// columns returns a basis of the columns of Gen in the order byDegree. In this order no degree gets greater than those of Gen.
func (x encoder) columns() basis {
	var sums []sum
	for j := range x.outputs() {
		s := sum{factors: make([][]int, x.outputs())}
		for _, row := range x.gen {
			s.value = append(s.value, row[j])
		}
		s.factors[j] = []int{1}
		sums = append(sums, s)
	}
	return newBasis(x.g, byDegree, x.inputs(), sums)
}

// minors returns the monic greatest common divisor of the determinants.
func (x encoder) minors() []int {
	var sums []sum
	for _, s := range x.columns().sums {
		sums = append(sums, sum{value: s.value})
	}
	// A basis in the order byIndex is a triangular matrix, whose determinant is the divisor: bases of the same lists have the same determinant but for a factor in the field.
	product := []int{1}
	for at, s := range newBasis(x.g, byIndex, x.inputs(), sums).sums {
		if len(s.value) == 0 {
			return nil
		}
		product = poly.Mul(x.g, product, s.value[at])
	}
	monic, _ := poly.Monic(x.g, product)
	return monic
}

// Minors returns the monic greatest common divisor of the determinants of all submatrices of Gen with all rows and as many columns.
func Minors(c api.Conv) ([]int, api.Errno) {
	x, e := open(c)
	if e != api.OK {
		return nil, e
	}
	return x.minors(), api.OK
}

// Basic reports whether Gen has a polynomial right inverse.
func Basic(c api.Conv) (bool, api.Errno) {
	x, e := open(c)
	if e != api.OK {
		return false, e
	}
	return x.columns().isWhole(), api.OK
}

// Catastrophic reports whether a message with infinitely many nonzero inputs has an output with finitely many nonzero elements.
func Catastrophic(c api.Conv) (bool, api.Errno) {
	x, e := open(c)
	if e != api.OK {
		return false, e
	}
	// By Massey and Sain there is none just if the divisor is a power of D.
	minors := x.minors()
	isPower := len(minors) > 0 && poly.Degree(x.g, minors[:len(minors)-1]) < 0
	return !isPower, api.OK
}

// Inverse returns a polynomial right inverse of Gen, or ErrNone.
func Inverse(c api.Conv) ([][][]int, api.Errno) {
	x, e := open(c)
	if e != api.OK {
		return nil, e
	}
	b := x.columns()
	if !b.isWhole() {
		return nil, api.ErrNone
	}
	inverse := make([][][]int, x.outputs())
	for i := range x.inputs() {
		for j, factor := range b.factorsOf(i, x.outputs()) {
			inverse[j] = append(inverse[j], factor)
		}
	}
	return inverse, api.OK
}

// factorsOf returns the factors of the n columns in a sum whose value is 1 at the index i and 0 at all others; the basis is whole.
func (b basis) factorsOf(i, n int) [][]int {
	// What the sum lacks of this value becomes 0.
	s := sum{make([][]int, len(b.sums)), make([][]int, n)}
	s.value[i] = []int{b.g.Neg(1)}
	for b.first(s.value).degree >= 0 {
		s = b.reduced(s, b.first(s.value).at)
	}
	return s.factors
}
