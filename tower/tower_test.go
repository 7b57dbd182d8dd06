package tower_test

import (
	"math"
	"slices"
	"testing"

	"codewright/api"
	"codewright/field"
	"codewright/poly"
	"codewright/tower"
)

func TestFrobenius(t *testing.T) {
	for _, g := range fields(t) {
		m := g.Field().M
		for _, x := range every(g) {
			for k := -2 * m; k <= 2*m+1; k++ {
				sameInt(t, tower.Frobenius(g, x, k), api.OK, raised(g, x, (k+2*m)%m), "P7.1: Frobenius", g, x, k)
			}
			for _, k := range []int{math.MaxInt, math.MaxInt - 1, math.MinInt, math.MinInt + 1, -1 << 40, 1<<40 + 1} {
				sameInt(t, tower.Frobenius(g, x, k), api.OK, raised(g, x, (k%m+m)%m), "P7.1: Frobenius", g, x, k)
			}
		}
	}
}

func TestFrobeniusRespectsSumsAndProducts(t *testing.T) {
	r := &random{state: 1}
	for _, g := range fields(t) {
		for range 300 {
			x, y, k := r.below(g.Order()), r.below(g.Order()), r.below(20)-10
			a, b := tower.Frobenius(g, x, k), tower.Frobenius(g, y, k)
			sameInt(t, tower.Frobenius(g, g.Add(x, y), k), api.OK, g.Add(a, b), "P7.1: Frobenius of a sum", g, x, y, k)
			sameInt(t, tower.Frobenius(g, g.Mul(x, y), k), api.OK, g.Mul(a, b), "P7.1: Frobenius of a product", g, x, y, k)
			sameInt(t, tower.Frobenius(g, a, -k), api.OK, x, "P7.1: Frobenius back", g, x, k)
		}
	}
}

func TestDegree(t *testing.T) {
	for _, g := range fields(t) {
		m := g.Field().M
		for _, x := range every(g) {
			want := 1
			for raised(g, x, want) != counted(g, x) {
				want++
			}
			have := tower.Degree(g, x)
			sameInt(t, have, api.OK, want, "P7.1: Degree", g, x)
			if have < 1 || m%have != 0 {
				t.Fatalf("P7.1: %v: Degree(%d) is no divisor: %d", g.Field(), x, have)
			}
			for _, d := range degrees(g) {
				if list, _ := tower.Subfield(g, d); slices.Contains(list, counted(g, x)) != (d%have == 0) {
					t.Errorf("P7.1: %v: Degree(%d) is %d, but the subfield of degree %d is %v", g.Field(), x, have, d, list)
				}
			}
		}
	}
}

func TestSubfield(t *testing.T) {
	for _, g := range fields(t) {
		for _, d := range degrees(g) {
			_, want := inside(g, d)
			have, e := tower.Subfield(g, d)
			sameList(t, have, e, want, "P7.2: Subfield", g, d)
			size := 1
			for range d {
				size *= g.Field().P
			}
			sameInt(t, len(have), e, size, "Subfields: the number of the elements", g, d)
		}
	}
}

func TestConjugates(t *testing.T) {
	for _, g := range fields(t) {
		for _, d := range degrees(g) {
			for _, x := range every(g) {
				want := []int{counted(g, x)}
				for y := raised(g, x, d); y != want[0]; y = raised(g, y, d) {
					want = append(want, y)
				}
				have, e := tower.Conjugates(g, x, d)
				sameList(t, have, e, want, "P7.2: Conjugates", g, x, d)
			}
		}
	}
}

func TestMinimal(t *testing.T) {
	r := &random{state: 2}
	for _, g := range fields(t) {
		for _, d := range degrees(g) {
			marks, sub := inside(g, d)
			for _, x := range every(g) {
				conjugates, _ := tower.Conjugates(g, x, d)
				have, e := tower.Minimal(g, x, d)
				if e != api.OK || len(have) != len(conjugates)+1 || have[len(have)-1] != 1 {
					t.Fatalf("P7.2: %v: Minimal(%d, %d): have %v and error %d", g.Field(), x, d, have, e)
				}
				for _, c := range have {
					if !marks[c] {
						t.Errorf("P7.2: %v: Minimal(%d, %d) has the coefficient %d", g.Field(), x, d, c)
					}
				}
				for _, c := range conjugates {
					sameInt(t, poly.Eval(g, have, c), api.OK, 0, "P7.2: Minimal at a conjugate", g, x, d, c)
				}
				divides(t, g, r, x, d, sub, have)
			}
		}
	}
}

// divides reports an error unless p divides just those polynomials over the subfield with the elements sub, of a number of random ones, that are 0 at x.
func divides(t *testing.T, g *field.GF, r *random, x, d int, sub, p []int) {
	t.Helper()
	for n := range 6 {
		other := make([]int, len(p)+n-1)
		for i := range other {
			other[i] = sub[r.below(len(sub))]
		}
		// Few random polynomials are 0 at x, so a multiple of p is tried besides.
		for _, q := range [][]int{other, poly.Mul(g, other, p)} {
			_, rem, _ := poly.DivMod(g, q, p)
			if (len(rem) == 0) != (poly.Eval(g, q, x) == 0) {
				t.Errorf("P7.2: %v: Minimal(%d, %d) is %v; other polynomial %v", g.Field(), x, d, p, q)
			}
		}
	}
}

func TestMinimalHasTheLeastDegree(t *testing.T) {
	for _, g := range fields(t) {
		if g.Order() > 32 {
			continue
		}
		for _, d := range degrees(g) {
			_, sub := inside(g, d)
			for x := range g.Elements() {
				p, _ := tower.Minimal(g, x, d)
				tuples(sub, g.Field().M/d, func(q []int) {
					if poly.Eval(g, q, x) != 0 {
						return
					}
					if _, rem, e := poly.DivMod(g, q, p); e != api.OK || len(rem) > 0 {
						t.Errorf("P7.2: %v: Minimal(%d, %d) does not divide %v", g.Field(), x, d, q)
					}
				})
			}
		}
	}
}

func TestTraceAndNorm(t *testing.T) {
	for _, g := range fields(t) {
		for _, d := range degrees(g) {
			marks, _ := inside(g, d)
			for _, x := range every(g) {
				sum, product := 0, 1
				for i := range g.Field().M / d {
					y := raised(g, x, d*i)
					sum, product = g.Add(sum, y), g.Mul(product, y)
				}
				trace, e := tower.Trace(g, x, d)
				sameInt(t, trace, e, sum, "P7.4: Trace", g, x, d)
				norm, e := tower.Norm(g, x, d)
				sameInt(t, norm, e, product, "P7.4: Norm", g, x, d)
				if !marks[trace] || !marks[norm] {
					t.Errorf("P7.4: %v: Trace or Norm of %d to the degree %d: %d, %d", g.Field(), x, d, trace, norm)
				}
			}
		}
	}
}

func TestTraceOfSumAndNormOfProduct(t *testing.T) {
	r := &random{state: 3}
	for _, g := range fields(t) {
		for _, d := range degrees(g) {
			for range 200 {
				x, y := r.below(g.Order()), r.below(g.Order())
				a, _ := tower.Trace(g, x, d)
				b, _ := tower.Trace(g, y, d)
				sum, e := tower.Trace(g, g.Add(x, y), d)
				sameInt(t, sum, e, g.Add(a, b), "P7.4: Trace of a sum", g, x, y, d)
				a, _ = tower.Norm(g, x, d)
				b, _ = tower.Norm(g, y, d)
				product, e := tower.Norm(g, g.Mul(x, y), d)
				sameInt(t, product, e, g.Mul(a, b), "P7.4: Norm of a product", g, x, y, d)
			}
		}
	}
}

func TestTraceZeroAndNormOne(t *testing.T) {
	for _, g := range fields(t) {
		for _, d := range degrees(g) {
			zero, one := make([]bool, g.Order()), make([]bool, g.Order())
			for y := range g.Elements() {
				zero[g.Sub(raised(g, y, d), y)] = true
				if quo, e := g.Div(raised(g, y, d), y); e == api.OK {
					one[quo] = true
				}
			}
			for x := range g.Elements() {
				if trace, _ := tower.Trace(g, x, d); (trace == 0) != zero[x] {
					t.Errorf("P7.4: %v: Trace(%d, %d) is %d", g.Field(), x, d, trace)
				}
				if norm, _ := tower.Norm(g, x, d); (norm == 1) != one[x] {
					t.Errorf("P7.4: %v: Norm(%d, %d) is %d", g.Field(), x, d, norm)
				}
			}
		}
	}
}

func TestNoDegree(t *testing.T) {
	for _, g := range fields(t) {
		for _, d := range wrong(g) {
			for _, x := range []int{0, 1, g.Order() - 1, -1, g.Order()} {
				lists := map[string]func() ([]int, api.Errno){
					"Subfield":    func() ([]int, api.Errno) { return tower.Subfield(g, d) },
					"Conjugates":  func() ([]int, api.Errno) { return tower.Conjugates(g, x, d) },
					"Minimal":     func() ([]int, api.Errno) { return tower.Minimal(g, x, d) },
					"Coordinates": func() ([]int, api.Errno) { return tower.Coordinates(g, []int{1, x}, d, x) },
					"Dual":        func() ([]int, api.Errno) { return tower.Dual(g, []int{x}, d) },
					"Dual of nil": func() ([]int, api.Errno) { return tower.Dual(g, nil, d) },
				}
				for name, call := range lists {
					if l, e := call(); e != api.ErrRange || len(l) > 0 {
						t.Errorf("P7.2, P7.5: %v: %s with the degree %d: %v and error %d", g.Field(), name, d, l, e)
					}
				}
				ints := map[string]func() (int, api.Errno){
					"Trace":  func() (int, api.Errno) { return tower.Trace(g, x, d) },
					"Norm":   func() (int, api.Errno) { return tower.Norm(g, x, d) },
					"Normal": func() (int, api.Errno) { return tower.Normal(g, d) },
				}
				for name, call := range ints {
					if y, e := call(); e != api.ErrRange || y != 0 {
						t.Errorf("P7.4, P7.5: %v: %s with the degree %d: %d and error %d", g.Field(), name, d, y, e)
					}
				}
				if tower.IsBasis(g, []int{x}, d) || tower.IsBasis(g, nil, d) {
					t.Errorf("P7.5: %v: IsBasis with the degree %d", g.Field(), d)
				}
			}
		}
	}
}

func TestExamples(t *testing.T) {
	g := sixteen(t)
	l, e := tower.Subfield(g, 2)
	sameList(t, l, e, []int{0, 1, 6, 7}, "P7.2: Subfield", g, 2)
	l, e = tower.Conjugates(g, 2, 1)
	sameList(t, l, e, []int{2, 4, 3, 5}, "P7.2: Conjugates", g, 2, 1)
	for x, want := range map[int]int{8: 1, 1: 0, 2: 0, 4: 0} {
		trace, e := tower.Trace(g, x, 1)
		sameInt(t, trace, e, want, "P7.4: Trace", g, x, 1)
	}
	four, _ := field.Standard(4)
	l, e = tower.Embed(four, g)
	sameList(t, l, e, []int{0, 1, 6, 7}, "P7.3: Embed", g, four)
}
