package cyclic_test

import (
	"math"
	"slices"
	"testing"

	"codewright/api"
	"codewright/code"
	"codewright/cyclic"
	"codewright/field"
	"codewright/poly"
)

// copied returns c in new memory.
func copied(c api.Code) api.Code {
	out := api.Code{F: c.F, N: c.N}
	out.F.Mod = slices.Clone(c.F.Mod)
	for _, row := range c.Gen {
		out.Gen = append(out.Gen, slices.Clone(row))
	}
	return out
}

// TestNew goes through all multiples.
func TestNew(t *testing.T) {
	r := &random{state: 1}
	for _, g := range small(t) {
		for n := 1; n <= longest(g, 729); n++ {
			all := words(g, n)
			for i := range 30 {
				p := r.list(g, []int{n, n + 1, 2 * n, 5*n + 3, 0, 1}[i%6], 1+r.below(4))
				if i%2 == 1 {
					p = poly.Mul(g, p, r.divisor(t, g, n))
				}
				kept := slices.Clone(p)
				have, e := cyclic.New(g.Field(), n, p)
				if e != api.OK || !slices.Equal(p, kept) || code.Check(have) != api.OK || have.N != n || !field.Same(have.F, g.Field()) {
					t.Fatalf("P16.2: New(%v, %d, %v): have %v and error %d", g.Field(), n, kept, have, e)
				}
				set, list := spanned(g, n, have.Gen)
				want := map[string]bool{}
				for _, w := range all {
					rest := make([]int, n)
					for j, x := range p {
						rest[j%n] = g.Add(rest[j%n], x)
					}
					product := times(g, w, rest)
					want[key(product)] = true
					if !set[key(product)] {
						t.Fatalf("P16.2: New(%v, %d, %v): %v is no word", g.Field(), n, p, product)
					}
				}
				if len(want) != len(set) || !isClosed(set, list, n) {
					t.Fatalf("P16.2: New(%v, %d, %v): %d words, want %d", g.Field(), n, p, len(set), len(want))
				}
			}
		}
	}
}

func TestNewOfGreatLengths(t *testing.T) {
	r := &random{state: 2}
	for _, g := range fields(t) {
		for _, n := range []int{1, 2, 15, 17, 26, 31, 48, 63, 64} {
			for range 4 {
				divisor := r.divisor(t, g, n)
				p := poly.Mul(g, divisor, r.list(g, 1+r.below(200), 2))
				want := poly.Gcd(g, p, whole(g, n))
				c, e := cyclic.New(g.Field(), n, p)
				if e != api.OK || len(c.Gen) != n+1-len(want) {
					t.Fatalf("P16.2: New(%v, %d, %v): dimension %d and error %d, want %v", g.Field(), n, p, len(c.Gen), e, want)
				}
				for _, w := range c.Gen {
					if _, rest, _ := poly.DivMod(g, w, want); len(rest) > 0 {
						t.Fatalf("P16.2: New(%v, %d, %v): %v is no multiple of %v", g.Field(), n, p, w, want)
					}
				}
				have, e := cyclic.Generator(c)
				sameList(t, have, e, want, "P16.2: the generator polynomial", g.Field(), n, p)
				again, e := cyclic.New(g.Field(), n, want)
				sameCode(t, again, e, c, "P16.9: New of the generator polynomial", g.Field(), n, p)
			}
		}
	}
}

func TestNewOfZero(t *testing.T) {
	for _, g := range fields(t) {
		for n := 1; n <= api.MaxN; n++ {
			for _, p := range [][]int{nil, {}, {0}, make([]int, 200), whole(g, n), poly.Mul(g, whole(g, n), whole(g, 5))} {
				c, e := cyclic.New(g.Field(), n, p)
				sameCode(t, c, e, api.Code{F: g.Field(), N: n}, "P16.2: the zero code", g.Field(), n, p)
				have, e := cyclic.Generator(c)
				sameList(t, have, e, whole(g, n), "P16.3: Generator of the zero code", g.Field(), n)
				have, e = cyclic.Control(c)
				sameList(t, have, e, []int{1}, "P16.3: Control of the zero code", g.Field(), n)
			}
			c, _ := code.Whole(g.Field(), n)
			have, e := cyclic.New(g.Field(), n, []int{g.Order() - 1})
			sameCode(t, have, e, c, "P16.2: all words", g.Field(), n)
			p, e := cyclic.Generator(c)
			sameList(t, p, e, []int{1}, "P16.3: Generator of all words", g.Field(), n)
			p, e = cyclic.Control(c)
			sameList(t, p, e, whole(g, n), "P16.3: Control of all words", g.Field(), n)
		}
	}
}

func TestErrorsOfNew(t *testing.T) {
	of := func(f api.Field, n int, p ...int) map[string]result {
		return map[string]result{"New": ofCode(cyclic.New(f, n, p))}
	}
	for _, f := range noFields {
		for _, n := range []int{-1, 0, 3, 65} {
			failed(t, of(f, n), api.ErrField, "P16.2", f, n)
			failed(t, of(f, n, -1), api.ErrField, "P16.2", f, n)
		}
	}
	for _, g := range fields(t) {
		for _, n := range []int{math.MinInt, -1, 0, 65, 66, 257, math.MaxInt} {
			failed(t, of(g.Field(), n), api.ErrLength, "P16.2", g.Field(), n)
			failed(t, of(g.Field(), n, 1, -1), api.ErrLength, "P16.2", g.Field(), n)
		}
		for _, x := range []int{-1, g.Order(), g.Order() + 1, 1 << 32, math.MaxInt, math.MinInt} {
			failed(t, of(g.Field(), 3, x), api.ErrElement, "P16.2", g.Field(), x)
			failed(t, of(g.Field(), 3, 1, 1, 0, 0, 0, 0, 0, x), api.ErrElement, "P16.2", g.Field(), x)
			failed(t, of(g.Field(), 64, 0, x, 1), api.ErrElement, "P16.2", g.Field(), x)
		}
	}
}

// TestIs compares with all words of small codes.
func TestIs(t *testing.T) {
	r := &random{state: 3}
	for _, g := range small(t) {
		for n := 1; n <= longest(g, 729); n++ {
			for i := range 40 {
				c := r.code(t, g, r.below(n+1), n)
				if i%4 == 0 {
					c, _ = cyclic.New(g.Field(), n, r.divisor(t, g, n))
				}
				kept := copied(c)
				set, list := spanned(g, n, c.Gen)
				want := isClosed(set, list, n)
				have, e := cyclic.Is(c)
				sameBool(t, have, e, want, "P16.3: Is", c)
				if want {
					polynomials(t, g, c, list)
				} else {
					failed(t, ofPolynomial(c), api.ErrForm, "P16.3", c)
				}
				sameCode(t, c, api.OK, kept, "Rules: an argument")
			}
		}
	}
}

// polynomials reports an error unless the polynomials of the cyclic code c with these words are right.
func polynomials(t *testing.T, g *field.GF, c api.Code, list [][]int) {
	t.Helper()
	least := whole(g, c.N)
	for _, w := range list {
		if p := poly.Canon(g, w); len(p) > 0 && p[len(p)-1] == 1 && len(p) < len(least) {
			least = p
		}
	}
	have, e := cyclic.Generator(c)
	sameList(t, have, e, least, "P16.3: Generator", c)
	check, e := cyclic.Control(c)
	if product := poly.Mul(g, check, least); e != api.OK || !slices.Equal(product, whole(g, c.N)) {
		t.Errorf("P16.3: Control(%v): have %v and error %d", c, check, e)
	}
	if c.N%g.Field().P == 0 {
		failed(t, map[string]result{"Idempotent": ofList(cyclic.Idempotent(c))}, api.ErrMatch, "P16.4", c)
		return
	}
	var want [][]int
	for _, v := range list {
		if !slices.ContainsFunc(c.Gen, func(w []int) bool { return !slices.Equal(times(g, v, w), w) }) {
			want = append(want, v)
		}
	}
	if len(want) != 1 {
		t.Fatalf("the test finds the idempotents %v of %v", want, c)
	}
	have, e = cyclic.Idempotent(c)
	sameList(t, have, e, want[0], "P16.4: Idempotent", c)
}

func TestPolynomialsOfGreatCodes(t *testing.T) {
	r := &random{state: 4}
	for _, g := range fields(t) {
		for _, n := range []int{1, 5, 10, 21, 32, 45, 63, 64} {
			for range 3 {
				generator := r.divisor(t, g, n)
				c, _ := cyclic.New(g.Field(), n, generator)
				is, e := cyclic.Is(c)
				sameBool(t, is, e, true, "P16.3: Is", c)
				have, e := cyclic.Generator(c)
				sameList(t, have, e, generator, "P16.3: Generator", c)
				check, e := cyclic.Control(c)
				sameList(t, poly.Mul(g, check, generator), e, whole(g, n), "P16.3: Control", c)
				consequences(t, g, c, generator, check)
				idempotent(t, g, c)
				other := r.divisor(t, g, n)
				pair(t, g, c, generator, other)
			}
		}
	}
}

// consequences reports an error unless P16.9 holds for the dual and the reversed code of c.
func consequences(t *testing.T, g *field.GF, c api.Code, generator, check []int) {
	t.Helper()
	have, e := cyclic.Generator(dual(t, c))
	sameList(t, have, e, reciprocal(g, check), "P16.9: the generator polynomial of the dual code", c)
	reversed, e := cyclic.Reverse(c)
	if e != api.OK {
		t.Fatal(c, e)
	}
	have, e = cyclic.Generator(reversed)
	sameList(t, have, e, reciprocal(g, generator), "P16.9: the generator polynomial of the reversed code", c)
	if len(c.Gen) != c.N+1-len(generator) {
		t.Errorf("P16.9: the dimension of %v", c)
	}
}

// idempotent reports an error unless Idempotent is right for the cyclic code c.
func idempotent(t *testing.T, g *field.GF, c api.Code) {
	t.Helper()
	if c.N%g.Field().P == 0 {
		failed(t, map[string]result{"Idempotent": ofList(cyclic.Idempotent(c))}, api.ErrMatch, "P16.4", c)
		return
	}
	have, e := cyclic.Idempotent(c)
	if e != api.OK || len(have) != c.N {
		t.Fatalf("P16.4: Idempotent(%v): have %v and error %d", c, have, e)
	}
	if in, _ := code.Has(c, have); !in {
		t.Errorf("P16.4: Idempotent(%v): %v is no word", c, have)
	}
	for _, w := range c.Gen {
		sameList(t, times(g, have, w), api.OK, w, "P16.4: Idempotent", c)
	}
	again, e := cyclic.New(c.F, c.N, have)
	sameCode(t, again, e, c, "P16.9: New of the idempotent")
}

// pair reports an error unless P16.9 holds for the sum and the intersection of c, with its generator polynomial p, and the code with the generator polynomial q.
func pair(t *testing.T, g *field.GF, c api.Code, p, q []int) {
	t.Helper()
	d, _ := cyclic.New(c.F, c.N, q)
	divisor := poly.Gcd(g, p, q)
	sum, _ := code.Sum(c, d)
	have, e := cyclic.Generator(sum)
	sameList(t, have, e, divisor, "P16.9: the generator polynomial of a sum", c, d)
	multiple, _, _ := poly.DivMod(g, poly.Mul(g, p, q), divisor)
	meet, _ := code.Meet(c, d)
	have, e = cyclic.Generator(meet)
	sameList(t, have, e, multiple, "P16.9: the generator polynomial of an intersection", c, d)
}

// TestNotCyclic has great codes that are closed for few words only.
func TestNotCyclic(t *testing.T) {
	r := &random{state: 5}
	for _, g := range fields(t) {
		for _, n := range []int{2, 15, 40, 64} {
			c, _ := cyclic.New(g.Field(), n, []int{g.Neg(1), 1})
			for _, broken := range []api.Code{
				generated(t, g, n, c.Gen[1:]),
				generated(t, g, n, c.Gen[:n-2]),
				generated(t, g, n, [][]int{append(make([]int, n-1), 1)}),
				r.code(t, g, n/2, n),
			} {
				set := api.Code{F: c.F, N: n}
				for _, w := range broken.Gen {
					set.Gen = append(set.Gen, moved(w, n))
				}
				image := generated(t, g, n, set.Gen)
				have, e := cyclic.Is(broken)
				sameBool(t, have, e, equal(image, broken), "P16.3: Is", broken)
				if !have {
					failed(t, ofPolynomial(broken), api.ErrForm, "P16.3", broken)
				}
			}
		}
	}
}

func TestReverse(t *testing.T) {
	r := &random{state: 6}
	for _, g := range fields(t) {
		for _, n := range []int{1, 2, 3, 10, 33, 64} {
			for range 5 {
				c := r.code(t, g, r.below(n+1), n)
				kept := copied(c)
				var rows [][]int
				for _, w := range kept.Gen {
					w = slices.Clone(w)
					slices.Reverse(w)
					rows = append(rows, w)
				}
				have, e := cyclic.Reverse(c)
				sameCode(t, have, e, generated(t, g, n, rows), "P16.6: Reverse", c)
				back, e := cyclic.Reverse(have)
				sameCode(t, back, e, c, "P16.6: Reverse, twice", c)
				sameCode(t, c, api.OK, kept, "Rules: an argument")
			}
		}
	}
	two := standard(t, 2)
	have, e := cyclic.Reverse(coded(two, 4, "1010", "0111"))
	sameCode(t, have, e, coded(two, 4, "1011", "0101"), "P16.6: Reverse")
}

func TestExamples(t *testing.T) {
	two := standard(t, 2)
	c, e := cyclic.New(two.Field(), 7, []int{1, 1, 0, 1})
	sameCode(t, c, e, coded(two, 7, "1000110", "0100011", "0010111", "0001101"), "Examples: New")
	p, e := cyclic.Control(c)
	sameList(t, p, e, []int{1, 1, 1, 0, 1}, "Examples: Control")
	p, e = cyclic.Idempotent(c)
	sameList(t, p, e, []int{0, 1, 1, 0, 1, 0, 0}, "Examples: Idempotent")
	is, e := cyclic.Is(coded(two, 3, "101", "011"))
	sameBool(t, is, e, true, "Examples: Is")
	is, e = cyclic.Is(coded(two, 3, "110"))
	sameBool(t, is, e, false, "Examples: Is")
	failed(t, map[string]result{"Idempotent": ofList(cyclic.Idempotent(coded(two, 2, "11")))}, api.ErrMatch, "Examples")
	failed(t, map[string]result{"Idempotent": ofList(cyclic.Idempotent(coded(two, 2, "10")))}, api.ErrForm, "P16.4")
}
