package alternant_test

import (
	"slices"
	"testing"

	"codewright/api"
	"codewright/code"
	"codewright/field"
	"codewright/grs"
	"codewright/poly"
	"codewright/tower"
)

// random is a generator of numbers that are the same in each run.
type random struct{ state uint64 }

func (r *random) below(n int) int {
	r.state = r.state*6364136223846793005 + 1442695040888963407
	return int(r.state >> 33 % uint64(n))
}

// generated returns the code of length n that the rows generate.
func generated(t *testing.T, g *field.GF, n int, rows [][]int) api.Code {
	t.Helper()
	c, e := code.New(g.Field(), api.Matrix{Cols: n, Rows: rows})
	if e != api.OK {
		t.Fatal(n, rows, e)
	}
	return c
}

// standard returns the standard field of order q.
func standard(t *testing.T, q int) *field.GF {
	t.Helper()
	f, e := field.Standard(q)
	if e != api.OK {
		t.Fatal(q, e)
	}
	return made(t, f)
}

// made returns the field that f describes.
func made(t *testing.T, f api.Field) *field.GF {
	t.Helper()
	g, e := field.New(f)
	if e != api.OK {
		t.Fatal(f, e)
	}
	return g
}

// unusual are descriptions of fields that are not the standard ones.
var unusual = []api.Field{{P: 3, M: 2, Mod: []int{2, 1}}, {P: 2, M: 3, Mod: []int{1, 0, 1}}, {P: 2, M: 4, Mod: []int{1, 1, 1, 1}}}

// fields returns standard fields of many orders, and others.
func fields(t *testing.T) []*field.GF {
	t.Helper()
	var list []*field.GF
	for _, q := range []int{2, 3, 4, 5, 7, 8, 9, 16, 25, 27, 64, 81, 128, 243, 251, 256} {
		list = append(list, standard(t, q))
	}
	for _, f := range unusual {
		list = append(list, made(t, f))
	}
	return list
}

// noFields are descriptions of no field.
var noFields = []api.Field{{}, {P: 4, M: 1}, {P: 2, M: 0}, {P: 2, M: 2}, {P: 2, M: 2, Mod: []int{0, 1}}, {P: 2, M: 1, Mod: []int{1}}, {P: 257, M: 1}, {P: 2, M: 9, Mod: make([]int, 9)}, {P: -1, M: 1}}

// pair is a field with a field that fits it, and the images of its elements.
type pair struct {
	small, big *field.GF
	images     []int
}

// pairs returns the fields with the fields that fit them.
func pairs(t *testing.T) []pair {
	t.Helper()
	var list []pair
	for _, big := range fields(t) {
		for _, small := range fields(t) {
			if images, e := tower.Embed(small.Field(), big); e == api.OK {
				list = append(list, pair{small, big, images})
			}
		}
	}
	return list
}

// image returns the image of the word w.
func (x pair) image(w []int) []int {
	list := make([]int, len(w))
	for i, entry := range w {
		list[i] = x.images[entry]
	}
	return list
}

// inside reports whether the image of w is a codeword of s, from the definition.
func (x pair) inside(s api.GRS, w []int) bool {
	values := x.image(w)
	for i, value := range values {
		values[i], _ = x.big.Div(value, s.Mults[i])
	}
	p, e := poly.Interpolate(x.big, s.Points, values)
	return e == api.OK && len(p) <= s.K
}

// insideGoppa reports whether w is a codeword of p, from the definition.
func (x pair) insideGoppa(p api.Goppa, w []int) bool {
	var sum []int
	for i, y := range x.image(w) {
		sum = poly.Add(x.big, sum, poly.Scale(x.big, y, others(x.big, p, i)))
	}
	_, rem, e := poly.DivMod(x.big, sum, p.Poly)
	return e == api.OK && len(rem) == 0
}

// others returns the product of x less each point, but for the point i.
func others(g *field.GF, p api.Goppa, i int) []int {
	return poly.FromRoots(g, slices.Delete(slices.Clone(p.Points), i, i+1)...)
}

// described returns a description of length n and dimension k over g, with random points and multipliers.
func (r *random) described(g *field.GF, n, k int) api.GRS {
	s := api.GRS{F: g.Field(), K: k}
	s.Points = r.some(slices.Collect(g.Elements()), n)
	for range n {
		s.Mults = append(s.Mults, 1+r.below(g.Order()-1))
	}
	return s
}

// some returns n entries of the list, in a random order.
func (r *random) some(list []int, n int) []int {
	list = slices.Clone(list)
	for i := range n {
		j := i + r.below(len(list)-i)
		list[i], list[j] = list[j], list[i]
	}
	return list[:n]
}

// polynomial returns a random polynomial of the degree.
func (r *random) polynomial(g *field.GF, degree int) []int {
	p := make([]int, degree+1)
	for i := range p {
		p[i] = r.below(g.Order())
	}
	p[degree] = 1 + r.below(g.Order()-1)
	return p
}

// goppa returns a description with the polynomial q and at most n points that are not its roots, or false if all elements are roots.
func (r *random) goppa(x pair, q []int, n int) (api.Goppa, bool) {
	p := api.Goppa{Small: x.small.Field(), Big: x.big.Field(), Poly: q}
	var free []int
	for y := range x.big.Elements() {
		if poly.Eval(x.big, q, y) != 0 {
			free = append(free, y)
		}
	}
	p.Points = r.some(free, min(n, len(free)))
	return p, len(free) > 0
}

// goppas calls visit for descriptions of all kinds, with polynomials of the degrees, many with squares in them, and at most n points.
func goppas(t *testing.T, degrees []int, n int, visit func(r *random, x pair, p api.Goppa)) {
	t.Helper()
	r := &random{state: 7}
	for _, x := range pairs(t) {
		for _, degree := range degrees {
			square := r.polynomial(x.big, r.below(degree/2+1))
			for _, q := range [][]int{
				r.polynomial(x.big, degree),
				poly.Mul(x.big, square, square, r.polynomial(x.big, degree-2*(len(square)-1))),
			} {
				if p, ok := r.goppa(x, q, 1+r.below(n)); ok {
					visit(r, x, p)
				}
			}
		}
	}
}

// words returns all words of length n.
func words(g *field.GF, n int) [][]int {
	list := [][]int{{}}
	for range n {
		var longer [][]int
		for _, w := range list {
			for x := range g.Elements() {
				longer = append(longer, append(slices.Clone(w), x))
			}
		}
		list = longer
	}
	return list
}

// few reports whether there are at most most words of length n over a field of order q.
func few(q, n, most int) bool {
	product := 1
	for range n {
		if product *= q; product > most {
			return false
		}
	}
	return true
}

// leastWeight returns the least weight of a nonzero word of c, or 99 for the zero code.
func leastWeight(c api.Code) int {
	least := 99
	for i, w := range code.Walk(c) {
		weight := 0
		for _, x := range w {
			weight += min(1, x)
		}
		if i > 0 {
			least = min(least, weight)
		}
	}
	return least
}

// sameLists reports whether a and b have the same lists.
func sameLists(a, b [][]int) bool {
	return slices.EqualFunc(a, b, slices.Equal)
}

// equal reports whether c and d are equal.
func equal(c, d api.Code) bool {
	return field.Same(c.F, d.F) && c.N == d.N && sameLists(c.Gen, d.Gen)
}

// sameCode reports an error unless have is want, and e is OK.
func sameCode(t *testing.T, have api.Code, e api.Errno, want api.Code, promise string, args ...any) {
	t.Helper()
	if e != api.OK || !equal(have, want) {
		t.Errorf("%s: %v: have %v and error %d, want %v", promise, args, have, e, want)
	}
}

// sameInt reports an error unless have is want, and e is OK.
func sameInt(t *testing.T, have int, e api.Errno, want int, promise string, args ...any) {
	t.Helper()
	if e != api.OK || have != want {
		t.Errorf("%s: %v: have %d and error %d, want %d", promise, args, have, e, want)
	}
}

// same reports whether the descriptions are equal.
func same(s, d api.GRS) bool {
	return field.Same(s.F, d.F) && s.K == d.K && slices.Equal(s.Points, d.Points) && slices.Equal(s.Mults, d.Mults)
}

// sameGoppa reports whether the descriptions are equal.
func sameGoppa(p, q api.Goppa) bool {
	return field.Same(p.Small, q.Small) && field.Same(p.Big, q.Big) && slices.Equal(p.Poly, q.Poly) && slices.Equal(p.Points, q.Points)
}

// cloned returns s in new memory.
func cloned(s api.GRS) api.GRS {
	s.F.Mod = slices.Clone(s.F.Mod)
	s.Points, s.Mults = slices.Clone(s.Points), slices.Clone(s.Mults)
	return s
}

// clonedGoppa returns p in new memory.
func clonedGoppa(p api.Goppa) api.Goppa {
	p.Small.Mod, p.Big.Mod = slices.Clone(p.Small.Mod), slices.Clone(p.Big.Mod)
	p.Poly, p.Points = slices.Clone(p.Poly), slices.Clone(p.Points)
	return p
}

// codeOf returns the code of s.
func codeOf(t *testing.T, s api.GRS) api.Code {
	t.Helper()
	c, e := grs.Code(s)
	if e != api.OK {
		t.Fatal(s, e)
	}
	return c
}

// result is what a function returns: an error, and whether there is anything but zero values beside it.
type result struct {
	some bool
	e    api.Errno
}

func ofCode(c api.Code, e api.Errno) result { return result{!equal(c, api.Code{}), e} }

func ofInt(n int, e api.Errno) result { return result{n != 0, e} }

func ofMatrix(m api.Matrix, e api.Errno) result { return result{m.Cols != 0 || len(m.Rows) > 0, e} }

func ofGRS(s api.GRS, e api.Errno) result { return result{!same(s, api.GRS{}), e} }

func ofGoppa(p api.Goppa, e api.Errno) result { return result{!sameGoppa(p, api.Goppa{}), e} }

// failed reports an error unless all results have the error want alone.
func failed(t *testing.T, results map[string]result, want api.Errno, promise string, args ...any) {
	t.Helper()
	for name, r := range results {
		if r.e != want || r.some {
			t.Errorf("%s: %s of %v: have %v, want error %d alone", promise, name, args, r, want)
		}
	}
}
