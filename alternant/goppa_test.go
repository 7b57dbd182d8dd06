package alternant_test

import (
	"math"
	"slices"
	"testing"

	"codewright/alternant"
	"codewright/api"
	"codewright/code"
	"codewright/factor"
	"codewright/field"
	"codewright/matrix"
	"codewright/poly"
)

// ofOne returns what the functions with an argument p return, beside Check.
func ofOne(p api.Goppa) map[string]result {
	return map[string]result{
		"Parity":        ofMatrix(alternant.Parity(p)),
		"GoppaCode":     ofCode(alternant.GoppaCode(p)),
		"Alternant":     ofGRS(alternant.Alternant(p)),
		"Square":        ofGoppa(alternant.Square(p)),
		"GoppaDesigned": ofInt(alternant.GoppaDesigned(p)),
	}
}

func TestCheck(t *testing.T) {
	goppas(t, []int{1, 2, 5, 33, 64}, api.MaxN, func(_ *random, _ pair, p api.Goppa) {
		before := clonedGoppa(p)
		if e := alternant.Check(p); e != api.OK || !sameGoppa(p, before) {
			t.Errorf("P19.2: Check(%v): error %d, the description is now %v", before, e, p)
		}
	})
}

// broken returns descriptions over f and h with the errors that Check finds behind those of the fields; each of them has the later errors also, where this is possible.
func broken(f, h *field.GF) map[api.Errno][]api.Goppa {
	q, one := h.Order(), []int{1}
	root := []int{h.Neg(1), 1} // x - 1
	long := append(make([]int, api.MaxN+1), 1)
	list := map[api.Errno][]api.Goppa{
		api.ErrLength: {
			{}, {Poly: []int{q}}, {Points: []int{}, Poly: root}, {Points: make([]int, 65), Poly: []int{-1}}, {Points: slices.Repeat([]int{q}, 300), Poly: root},
		},
		api.ErrElement: {
			{Points: []int{0, 0, q}, Poly: []int{0}}, {Points: []int{1, 1}, Poly: []int{1, q, 0}}, {Points: []int{-1}, Poly: root}, {Points: []int{math.MaxInt, 1}},
			{Points: []int{1}, Poly: []int{math.MinInt, 1}}, {Points: []int{1}, Poly: append(make([]int, 300), -1)},
		},
		api.ErrTwice: {
			{Points: []int{0, 0}}, {Points: []int{1, 0, 1}, Poly: []int{1, 0}}, {Points: []int{1, 1}, Poly: root}, {Points: make([]int, 64), Poly: long},
		},
		api.ErrForm: {
			{Points: one}, {Points: one, Poly: []int{0}}, {Points: one, Poly: one}, {Points: one, Poly: []int{h.Neg(1), 1, 0}}, {Points: one, Poly: long}, {Points: []int{0}, Poly: long},
			{Points: one, Poly: append(make([]int, 300), 1)}, {Points: one, Poly: make([]int, 3)},
		},
		api.ErrZero: {
			{Points: one, Poly: root}, {Points: []int{0, 1}, Poly: root}, {Points: []int{1, 0}, Poly: []int{0, 0, 1}}, {Points: []int{0, 1}, Poly: poly.Mul(h, root, root)},
		},
	}
	for _, l := range list {
		for i := range l {
			l[i].Small, l[i].Big = f.Field(), h.Field()
		}
	}
	return list
}

func TestErrorsOfCheck(t *testing.T) {
	list := fields(t)
	for _, f := range list {
		for _, h := range list {
			fit := f.Field().P == h.Field().P && h.Field().M%f.Field().M == 0
			for want, l := range broken(f, h) {
				if !fit {
					want = api.ErrMatch
				}
				for _, p := range l {
					if e := alternant.Check(p); e != want {
						t.Errorf("P19.2: Check(%v): error %d, want %d", p, e, want)
					}
					failed(t, ofOne(p), want, "P19.2", p)
				}
			}
			if good := (api.Goppa{Small: f.Field(), Big: h.Field(), Points: []int{1}, Poly: []int{0, 1}}); !fit {
				failed(t, ofOne(good), api.ErrMatch, "P19.2", good)
			}
		}
	}
}

func TestErrorsOfFields(t *testing.T) {
	two, eight := standard(t, 2).Field(), standard(t, 8).Field()
	for _, no := range noFields {
		for _, p := range []api.Goppa{{}, {Points: []int{9, 9}}, {Points: []int{1}, Poly: []int{1, 0}}, {Points: []int{0}, Poly: []int{1, 1}}} {
			for _, pair := range [][2]api.Field{{no, eight}, {no, no}, {two, no}, {standard(t, 3).Field(), no}} {
				p.Small, p.Big = pair[0], pair[1]
				if e := alternant.Check(p); e != api.ErrField {
					t.Errorf("P19.2: Check(%v): error %d, want ErrField", p, e)
				}
				failed(t, ofOne(p), api.ErrField, "P19.2", p)
			}
		}
	}
}

// TestParity compares with the definition, entry by entry.
func TestParity(t *testing.T) {
	goppas(t, []int{1, 2, 3, 10, 64}, api.MaxN, func(_ *random, x pair, p api.Goppa) {
		before := clonedGoppa(p)
		want := api.Matrix{Cols: len(p.Points)}
		for i := range len(p.Poly) - 1 {
			var row []int
			for _, y := range p.Points {
				power, _ := x.big.Pow(y, i)
				entry, _ := x.big.Div(power, poly.Eval(x.big, p.Poly, y))
				row = append(row, entry)
			}
			want.Rows = append(want.Rows, row)
		}
		have, e := alternant.Parity(p)
		if e != api.OK || have.Cols != want.Cols || !sameLists(have.Rows, want.Rows) {
			t.Errorf("P19.3: Parity(%v): have %v and error %d, want %v", p, have, e, want)
		}
		for _, row := range have.Rows {
			row[0] = -1
			_ = append(row, -1)
		}
		if again, _ := alternant.Parity(p); !sameGoppa(p, before) || !sameLists(again.Rows, want.Rows) {
			t.Errorf("Rules: the matrix of %v shares memory", before)
		}
	})
}

// TestGoppaCode goes through all words.
func TestGoppaCode(t *testing.T) {
	goppas(t, []int{1, 2, 3, 4, 5, 6, 12}, 10, func(_ *random, x pair, p api.Goppa) {
		n := len(p.Points)
		if !few(x.small.Order(), n, 1<<10) {
			return
		}
		m, _ := alternant.Parity(p)
		var rows [][]int
		for _, w := range words(x.small, n) {
			is := x.insideGoppa(p, w)
			if is {
				rows = append(rows, w)
			}
			zero := true
			for _, row := range m.Rows {
				zero = zero && x.big.Dot(row, x.image(w)) == 0
			}
			if is != zero {
				t.Errorf("P19.3: the products of Parity(%v) and %v are 0: %v, it is a codeword: %v", p, w, zero, is)
			}
		}
		have, e := alternant.GoppaCode(p)
		sameCode(t, have, e, spanned(t, x.small, n, rows), "P19.3: GoppaCode", p)
		d, e := alternant.GoppaDesigned(p)
		if least := leastWeight(have); least < d || e != api.OK {
			t.Errorf("Goppa codes: the code of %v has a word of weight %d, and the designed distance is %d, error %d", p, least, d, e)
		}
	})
}

// TestGreatGoppaCode compares with the linear equations for the remainders modulo Poly, if Small is a prime field.
func TestGreatGoppaCode(t *testing.T) {
	goppas(t, []int{1, 2, 4, 9, 17, 32, 40, 64}, api.MaxN, func(r *random, x pair, p api.Goppa) {
		n, degree := len(p.Points), len(p.Poly)-1
		have, e := alternant.GoppaCode(p)
		if e != api.OK || have.N != n || !field.Same(have.F, x.small.Field()) || code.Check(have) != api.OK {
			t.Fatalf("P19.3: GoppaCode(%v): have %v and error %d", p, have, e)
		}
		for range 3 {
			if w := r.word(x.small, have); !x.insideGoppa(p, w) {
				t.Errorf("P19.3: %v is no word of the code of %v", w, p)
			}
		}
		if x.small.Field().M > 1 || x.big.Field().M*degree > api.MaxRows {
			return
		}
		rows := make([][]int, x.big.Field().M*degree)
		for i := range rows {
			rows[i] = make([]int, n)
		}
		for j := range n {
			_, rem, _ := poly.DivMod(x.big, others(x.big, p, j), p.Poly)
			for at, y := range rem {
				for i, digit := range x.big.Digits(y) {
					rows[at*x.big.Field().M+i][j] = digit
				}
			}
		}
		kernel, e := matrix.Kernel(x.small.Field(), api.Matrix{Cols: n, Rows: rows})
		sameCode(t, have, e, api.Code{F: x.small.Field(), N: n, Gen: kernel.Rows}, "P19.3: GoppaCode", p)
	})
}

func TestAlternant(t *testing.T) {
	goppas(t, []int{1, 2, 3, 9, 20, 64}, api.MaxN, func(_ *random, x pair, p api.Goppa) {
		before := clonedGoppa(p)
		n := len(p.Points)
		s, e := alternant.Alternant(p)
		if e != api.OK || !field.Same(s.F, x.big.Field()) || s.K != n-min(n, len(p.Poly)-1) || !slices.Equal(s.Points, p.Points) {
			t.Fatalf("P19.3: Alternant(%v): have %v and error %d", p, s, e)
		}
		for i, y := range p.Points {
			// The dual multiplier is the value of Poly divided by that of the product of the other differences.
			want, _ := x.big.Div(poly.Eval(x.big, p.Poly, y), poly.Eval(x.big, others(x.big, p, i), y))
			if s.Mults[i] != want {
				t.Errorf("P19.3: Alternant(%v): multiplier %d is %d, want %d", p, i, s.Mults[i], want)
			}
		}
		have, e := alternant.Code(p.Small, s)
		want, _ := alternant.GoppaCode(p)
		sameCode(t, have, e, want, "P19.3: the alternant code of Alternant", p)
		s.Points[0], s.Mults[0] = -1, -1
		if len(s.F.Mod) > 0 {
			s.F.Mod[0] = -1
		}
		if !sameGoppa(p, before) {
			t.Errorf("Rules: Alternant of %v shares memory", before)
		}
	})
}

// TestGoppaDesigned compares with the factors of Poly.
func TestGoppaDesigned(t *testing.T) {
	squarefree := 0
	goppas(t, []int{1, 2, 3, 4, 6, 9, 16, 33, 64}, api.MaxN, func(_ *random, x pair, p api.Goppa) {
		_, list, e := factor.Complete(x.big, p.Poly)
		if e != api.OK {
			t.Fatal(p, e)
		}
		want := len(p.Poly)
		if x.small.Order() == 2 && !slices.ContainsFunc(list, func(f api.Factor) bool { return f.Mult > 1 }) {
			want += len(p.Poly) - 1
			squarefree++
		}
		have, e := alternant.GoppaDesigned(p)
		sameInt(t, have, e, want, "P19.4: GoppaDesigned", p)
	})
	if squarefree == 0 {
		t.Error("no polynomial without a square")
	}
}

func TestSquare(t *testing.T) {
	goppas(t, []int{1, 2, 3, 4, 8, 31, 32, 33, 64}, api.MaxN, func(_ *random, x pair, p api.Goppa) {
		before := clonedGoppa(p)
		have, e := alternant.Square(p)
		if len(p.Poly)-1 > api.MaxN/2 {
			failed(t, map[string]result{"Square": ofGoppa(have, e)}, api.ErrForm, "P19.4", p)
			return
		}
		want := p
		want.Poly = make([]int, 2*len(p.Poly)-1)
		for i, a := range p.Poly {
			for j, b := range p.Poly {
				want.Poly[i+j] = x.big.Add(want.Poly[i+j], x.big.Mul(a, b))
			}
		}
		if e != api.OK || !sameGoppa(have, want) {
			t.Errorf("P19.4: Square(%v): have %v and error %d, want %v", p, have, e, want)
		}
		first, e := alternant.GoppaCode(p)
		second, err := alternant.GoppaCode(have)
		if d, _ := alternant.GoppaDesigned(p); d == 2*len(p.Poly)-1 && x.small.Order() == 2 {
			sameCode(t, second, e, first, "P19.4: the code of Square", p)
		}
		if inside, _ := code.Inside(second, first); !inside || err != api.OK {
			t.Errorf("P19.4: the code of the square of %v is not inside, error %d", p, err)
		}
		have.Poly[0], have.Points[0] = -1, -1
		for _, mod := range [][]int{have.Small.Mod, have.Big.Mod} {
			if len(mod) > 0 {
				mod[0] = -1
			}
		}
		if !sameGoppa(p, before) {
			t.Errorf("Rules: Square of %v shares memory", before)
		}
	})
}

// TestDivisors has polynomials that divide others.
func TestDivisors(t *testing.T) {
	goppas(t, []int{1, 2, 3, 7}, 40, func(r *random, x pair, p api.Goppa) {
		whole := p
		whole.Poly = poly.Mul(x.big, p.Poly, r.polynomial(x.big, 1+r.below(5)))
		whole.Points = slices.DeleteFunc(slices.Clone(p.Points), func(y int) bool { return poly.Eval(x.big, whole.Poly, y) == 0 })
		p.Points = whole.Points
		if len(p.Points) == 0 {
			return
		}
		c, e := alternant.GoppaCode(whole)
		d, err := alternant.GoppaCode(p)
		if inside, _ := code.Inside(c, d); !inside || e != api.OK || err != api.OK {
			t.Errorf("P19.4: the code of %v is not inside that of %v, or errors %d and %d", whole, p, e, err)
		}
	})
}

func TestExamples(t *testing.T) {
	p := api.Goppa{Small: standard(t, 2).Field(), Big: standard(t, 8).Field(), Poly: []int{1, 1, 1}, Points: []int{0, 1, 2, 3, 4, 5, 6, 7}}
	c, e := alternant.GoppaCode(p)
	if e != api.OK || c.N != 8 || len(c.Gen) != 2 || leastWeight(c) != 5 {
		t.Errorf("Examples: GoppaCode: %v and error %d", c, e)
	}
	d, e := alternant.GoppaDesigned(p)
	sameInt(t, d, e, 5, "Examples: GoppaDesigned")
}
