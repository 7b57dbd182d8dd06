package cyclic_test

import (
	"slices"
	"testing"

	"codewright/api"
	"codewright/code"
	"codewright/cyclic"
	"codewright/field"
	"codewright/poly"
)

// random is a generator of numbers that are the same in each run.
type random struct{ state uint64 }

func (r *random) below(n int) int {
	r.state = r.state*6364136223846793005 + 1442695040888963407
	return int(r.state >> 33 % uint64(n))
}

// list returns n elements; about one in sparse of them is not 0.
func (r *random) list(g *field.GF, n, sparse int) []int {
	l := make([]int, n)
	for i := range l {
		if r.below(sparse) == 0 {
			l[i] = r.below(g.Order())
		}
	}
	return l
}

// code returns a code of length n that random words generate, as many as rows.
func (r *random) code(t *testing.T, g *field.GF, rows, n int) api.Code {
	t.Helper()
	var list [][]int
	sparse := 1 + r.below(3)
	for range rows {
		list = append(list, r.list(g, n, sparse))
	}
	return generated(t, g, n, list)
}

// divisor returns the generator polynomial of a random cyclic code of length n.
func (r *random) divisor(t *testing.T, g *field.GF, n int) []int {
	t.Helper()
	p := []int{1}
	for _, f := range factors(t, g, n) {
		for range f.Mult {
			if r.below(2) == 0 {
				p = poly.Mul(g, p, f.Poly)
			}
		}
	}
	return p
}

// generated returns the code of length n that the rows generate.
func generated(t *testing.T, g *field.GF, n int, rows [][]int) api.Code {
	t.Helper()
	c, e := code.New(g.Field(), api.Matrix{Cols: n, Rows: rows})
	if e != api.OK {
		t.Fatal(n, rows, e)
	}
	return c
}

// dual returns the dual code of c.
func dual(t *testing.T, c api.Code) api.Code {
	t.Helper()
	d, e := code.Dual(c)
	if e != api.OK {
		t.Fatal(c, e)
	}
	return d
}

// standard returns the standard field of order q.
func standard(t *testing.T, q int) *field.GF {
	t.Helper()
	f, e := field.Standard(q)
	if e != api.OK {
		t.Fatal(q, e)
	}
	return made(t, f)
}

// made returns the field that f describes.
func made(t *testing.T, f api.Field) *field.GF {
	t.Helper()
	g, e := field.New(f)
	if e != api.OK {
		t.Fatal(f, e)
	}
	return g
}

// unusual are descriptions of fields that are not the standard ones.
var unusual = []api.Field{{P: 3, M: 2, Mod: []int{2, 1}}, {P: 2, M: 3, Mod: []int{1, 0, 1}}, {P: 2, M: 4, Mod: []int{1, 1, 1, 1}}}

// fields returns standard fields of many orders, and others.
func fields(t *testing.T) []*field.GF {
	t.Helper()
	var list []*field.GF
	for _, q := range []int{2, 3, 4, 5, 7, 8, 9, 16, 25, 27, 64, 81, 128, 243, 251, 256} {
		list = append(list, standard(t, q))
	}
	for _, f := range unusual {
		list = append(list, made(t, f))
	}
	return list
}

// small returns fields that are small enough to go through all short words.
func small(t *testing.T) []*field.GF {
	t.Helper()
	var list []*field.GF
	for _, q := range []int{2, 3, 4, 5, 8, 9} {
		list = append(list, standard(t, q))
	}
	return append(list, made(t, unusual[0]))
}

// longest returns the greatest length of which there are at most most words over g.
func longest(g *field.GF, most int) int {
	n, count := 0, 1
	for count*g.Order() <= most {
		n, count = n+1, count*g.Order()
	}
	return n
}

// noFields are descriptions of no field.
var noFields = []api.Field{{}, {P: 4, M: 1}, {P: 2, M: 0}, {P: 2, M: 2}, {P: 2, M: 2, Mod: []int{0, 1}}, {P: 2, M: 1, Mod: []int{1}}, {P: 257, M: 1}, {P: 2, M: 9, Mod: make([]int, 9)}, {P: -1, M: 1}}

// digits returns lists with the digits of the texts.
func digits(texts ...string) [][]int {
	var rows [][]int
	for _, text := range texts {
		row := []int{}
		for _, digit := range text {
			row = append(row, int(digit-'0'))
		}
		rows = append(rows, row)
	}
	return rows
}

// coded returns the code of length n over g that is given by these rows.
func coded(g *field.GF, n int, texts ...string) api.Code {
	return api.Code{F: g.Field(), N: n, Gen: digits(texts...)}
}

// words returns all words of length n.
func words(g *field.GF, n int) [][]int {
	list := [][]int{{}}
	for range n {
		var longer [][]int
		for _, w := range list {
			for x := range g.Elements() {
				longer = append(longer, append(slices.Clone(w), x))
			}
		}
		list = longer
	}
	return list
}

// spanned returns the keys of all combinations of the rows, which have n entries, and these words.
func spanned(g *field.GF, n int, rows [][]int) (map[string]bool, [][]int) {
	list, seen := [][]int{make([]int, n)}, map[string]bool{key(make([]int, n)): true}
	for _, row := range rows {
		if seen[key(row)] {
			continue
		}
		for _, w := range list {
			for x := 1; x < g.Order(); x++ {
				sum := plus(g, w, g.Scale(x, row))
				seen[key(sum)] = true
				list = append(list, sum)
			}
		}
	}
	return seen, list
}

// plus returns the sum of two words.
func plus(g *field.GF, v, w []int) []int {
	sum := make([]int, len(v))
	for i, x := range v {
		sum[i] = g.Add(x, w[i])
	}
	return sum
}

// key returns a text that differs for different words.
func key(word []int) string {
	text := make([]byte, len(word))
	for i, x := range word {
		text[i] = byte(x)
	}
	return string(text)
}

// moved returns the word with each entry moved to the next position of its block of m positions, and the last one of a block to the first.
func moved(word []int, m int) []int {
	out := make([]int, len(word))
	for i, x := range word {
		if i%m == m-1 {
			out[i-m+1] = x
		} else {
			out[i+1] = x
		}
	}
	return out
}

// isClosed reports whether the words of the set, which are these, are in it when they are shifted within blocks of m positions.
func isClosed(set map[string]bool, list [][]int, m int) bool {
	for _, w := range list {
		if !set[key(moved(w, m))] {
			return false
		}
	}
	return true
}

// times returns the remainder of the product of the polynomials of two words of length n, divided by x^n - 1, as a word.
func times(g *field.GF, v, w []int) []int {
	out := make([]int, len(v))
	for i, x := range v {
		for j, y := range w {
			at := (i + j) % len(v)
			out[at] = g.Add(out[at], g.Mul(x, y))
		}
	}
	return out
}

// whole returns the polynomial x^n - 1.
func whole(g *field.GF, n int) []int {
	p, _ := poly.Shift(g, []int{1}, n)
	return poly.Sub(g, p, []int{1})
}

// reciprocal returns the monic multiple of the polynomial with the coefficients of p in the other order; the constant of p is not 0.
func reciprocal(g *field.GF, p []int) []int {
	p = slices.Clone(p)
	slices.Reverse(p)
	monic, _ := poly.Monic(g, p)
	return monic
}

// sameLists reports whether a and b have the same lists.
func sameLists(a, b [][]int) bool {
	return slices.EqualFunc(a, b, slices.Equal)
}

// equal reports whether c and d are equal.
func equal(c, d api.Code) bool {
	return field.Same(c.F, d.F) && c.N == d.N && sameLists(c.Gen, d.Gen)
}

// sameCode reports an error unless have is want, and e is OK.
func sameCode(t *testing.T, have api.Code, e api.Errno, want api.Code, promise string, args ...any) {
	t.Helper()
	if e != api.OK || !equal(have, want) {
		t.Errorf("%s: %v: have %v and error %d, want %v", promise, args, have, e, want)
	}
}

// sameList reports an error unless have is want, and e is OK.
func sameList(t *testing.T, have []int, e api.Errno, want []int, promise string, args ...any) {
	t.Helper()
	sameRows(t, [][]int{have}, e, [][]int{want}, promise, args...)
}

// sameRows reports an error unless have is want, and e is OK.
func sameRows(t *testing.T, have [][]int, e api.Errno, want [][]int, promise string, args ...any) {
	t.Helper()
	if e != api.OK || !sameLists(have, want) {
		t.Errorf("%s: %v: have %v and error %d, want %v", promise, args, have, e, want)
	}
}

// sameBool reports an error unless have is want, and e is OK.
func sameBool(t *testing.T, have bool, e api.Errno, want bool, promise string, args ...any) {
	t.Helper()
	if e != api.OK || have != want {
		t.Errorf("%s: %v: have %v and error %d, want %v", promise, args, have, e, want)
	}
}

// result is what a function returns: an error, and whether there is anything but zero values beside it.
type result struct {
	some bool
	e    api.Errno
}

func ofCode(c api.Code, e api.Errno) result { return result{!equal(c, api.Code{}), e} }

func ofBool(b bool, e api.Errno) result { return result{b, e} }

func ofList(l []int, e api.Errno) result { return result{len(l) > 0, e} }

func ofRows(l [][]int, e api.Errno) result { return result{len(l) > 0, e} }

// failed reports an error unless all results have the error want alone.
func failed(t *testing.T, results map[string]result, want api.Errno, promise string, args ...any) {
	t.Helper()
	for name, r := range results {
		if r.e != want || r.some {
			t.Errorf("%s: %s of %v: have %v, want error %d alone", promise, name, args, r, want)
		}
	}
}

// ofPolynomial returns what the functions return that want a cyclic code.
func ofPolynomial(c api.Code) map[string]result {
	return map[string]result{
		"Generator":  ofList(cyclic.Generator(c)),
		"Control":    ofList(cyclic.Control(c)),
		"Idempotent": ofList(cyclic.Idempotent(c)),
	}
}

// ofOne returns what the functions of one code return, with m for IsQuasi.
func ofOne(c api.Code, m int) map[string]result {
	results := ofPolynomial(c)
	results["Is"] = ofBool(cyclic.Is(c))
	results["Reverse"] = ofCode(cyclic.Reverse(c))
	results["IsQuasi"] = ofBool(cyclic.IsQuasi(c, m))
	return results
}

func TestBadCodes(t *testing.T) {
	for _, g := range fields(t) {
		f := g.Field()
		for want, c := range map[api.Errno]api.Code{
			api.ErrField:   {F: api.Field{P: 4, M: 1}, N: 0, Gen: digits("10")},
			api.ErrLength:  {F: f, N: 65, Gen: digits("10")},
			api.ErrShape:   {F: f, N: 3, Gen: [][]int{{0, -1, 0}, {0, 0}}},
			api.ErrElement: {F: f, N: 3, Gen: [][]int{{0, 1, 0}, {0, 0, g.Order()}}},
			api.ErrForm:    {F: f, N: 3, Gen: digits("010", "100")},
		} {
			for _, m := range []int{-1, 0, 1, 2, 3} {
				failed(t, ofOne(c, m), want, "Functions", c, m)
			}
		}
		failed(t, ofOne(api.Code{F: f}, 0), api.ErrLength, "Functions", "length 0")
		failed(t, ofOne(api.Code{F: f, N: -3}, -3), api.ErrLength, "Functions", "length -3")
	}
}
