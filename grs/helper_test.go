package grs_test

import (
	"slices"
	"testing"

	"codewright/api"
	"codewright/code"
	"codewright/field"
)

// random is a generator of numbers that are the same in each run.
type random struct{ state uint64 }

func (r *random) below(n int) int {
	r.state = r.state*6364136223846793005 + 1442695040888963407
	return int(r.state >> 33 % uint64(n))
}

// generated returns the code of length n that the rows generate.
func generated(t *testing.T, g *field.GF, n int, rows [][]int) api.Code {
	t.Helper()
	c, e := code.New(g.Field(), api.Matrix{Cols: n, Rows: rows})
	if e != api.OK {
		t.Fatal(n, rows, e)
	}
	return c
}

// dual returns the dual code of c.
func dual(t *testing.T, c api.Code) api.Code {
	t.Helper()
	d, e := code.Dual(c)
	if e != api.OK {
		t.Fatal(c, e)
	}
	return d
}

// standard returns the standard field of order q.
func standard(t *testing.T, q int) *field.GF {
	t.Helper()
	f, e := field.Standard(q)
	if e != api.OK {
		t.Fatal(q, e)
	}
	return made(t, f)
}

// made returns the field that f describes.
func made(t *testing.T, f api.Field) *field.GF {
	t.Helper()
	g, e := field.New(f)
	if e != api.OK {
		t.Fatal(f, e)
	}
	return g
}

// unusual are descriptions of fields that are not the standard ones.
var unusual = []api.Field{{P: 3, M: 2, Mod: []int{2, 1}}, {P: 2, M: 3, Mod: []int{1, 0, 1}}, {P: 2, M: 4, Mod: []int{1, 1, 1, 1}}}

// fields returns standard fields of many orders, and others.
func fields(t *testing.T) []*field.GF {
	t.Helper()
	var list []*field.GF
	for _, q := range []int{2, 3, 4, 5, 7, 8, 9, 16, 25, 27, 64, 81, 128, 243, 251, 256} {
		list = append(list, standard(t, q))
	}
	for _, f := range unusual {
		list = append(list, made(t, f))
	}
	return list
}

// noFields are descriptions of no field.
var noFields = []api.Field{{}, {P: 4, M: 1}, {P: 2, M: 0}, {P: 2, M: 2}, {P: 2, M: 2, Mod: []int{0, 1}}, {P: 2, M: 1, Mod: []int{1}}, {P: 257, M: 1}, {P: 2, M: 9, Mod: make([]int, 9)}, {P: -1, M: 1}}

// words returns all words of length n.
func words(g *field.GF, n int) [][]int {
	list := [][]int{{}}
	for range n {
		var longer [][]int
		for _, w := range list {
			for x := range g.Elements() {
				longer = append(longer, append(slices.Clone(w), x))
			}
		}
		list = longer
	}
	return list
}

// key returns a text that differs for different words.
func key(word []int) string {
	text := make([]byte, len(word))
	for i, x := range word {
		text[i] = byte(x)
	}
	return string(text)
}

// sameLists reports whether a and b have the same lists.
func sameLists(a, b [][]int) bool {
	return slices.EqualFunc(a, b, slices.Equal)
}

// equal reports whether c and d are equal.
func equal(c, d api.Code) bool {
	return field.Same(c.F, d.F) && c.N == d.N && sameLists(c.Gen, d.Gen)
}

// sameCode reports an error unless have is want, and e is OK.
func sameCode(t *testing.T, have api.Code, e api.Errno, want api.Code, promise string, args ...any) {
	t.Helper()
	if e != api.OK || !equal(have, want) {
		t.Errorf("%s: %v: have %v and error %d, want %v", promise, args, have, e, want)
	}
}

// sameList reports an error unless have is want, and e is OK.
func sameList(t *testing.T, have []int, e api.Errno, want []int, promise string, args ...any) {
	t.Helper()
	sameRows(t, [][]int{have}, e, [][]int{want}, promise, args...)
}

// sameRows reports an error unless have is want, and e is OK.
func sameRows(t *testing.T, have [][]int, e api.Errno, want [][]int, promise string, args ...any) {
	t.Helper()
	if e != api.OK || !sameLists(have, want) {
		t.Errorf("%s: %v: have %v and error %d, want %v", promise, args, have, e, want)
	}
}

// result is what a function returns: an error, and whether there is anything but zero values beside it.
type result struct {
	some bool
	e    api.Errno
}

func ofCode(c api.Code, e api.Errno) result { return result{!equal(c, api.Code{}), e} }

func ofList(l []int, e api.Errno) result { return result{len(l) > 0, e} }

// failed reports an error unless all results have the error want alone.
func failed(t *testing.T, results map[string]result, want api.Errno, promise string, args ...any) {
	t.Helper()
	for name, r := range results {
		if r.e != want || r.some {
			t.Errorf("%s: %s of %v: have %v, want error %d alone", promise, name, args, r, want)
		}
	}
}

func ofMatrix(m api.Matrix, e api.Errno) result { return result{m.Cols != 0 || len(m.Rows) > 0, e} }

func ofGRS(s api.GRS, e api.Errno) result { return result{!same(s, api.GRS{}), e} }

func ofNats(l []api.Nat, e api.Errno) result { return result{len(l) > 0, e} }

// same reports whether the descriptions are equal.
func same(s, d api.GRS) bool {
	return field.Same(s.F, d.F) && s.K == d.K && slices.Equal(s.Points, d.Points) && slices.Equal(s.Mults, d.Mults)
}

// sameGRS reports an error unless have is want, and e is OK.
func sameGRS(t *testing.T, have api.GRS, e api.Errno, want api.GRS, promise string, args ...any) {
	t.Helper()
	if e != api.OK || !same(have, want) {
		t.Errorf("%s: %v: have %v and error %d, want %v", promise, args, have, e, want)
	}
}

// cloned returns s in new memory.
func cloned(s api.GRS) api.GRS {
	s.F.Mod = slices.Clone(s.F.Mod)
	s.Points, s.Mults = slices.Clone(s.Points), slices.Clone(s.Mults)
	return s
}

// described returns a description of length n and dimension k over g, with random points and multipliers.
func (r *random) described(g *field.GF, n, k int) api.GRS {
	s := api.GRS{F: g.Field(), K: k}
	free := slices.Collect(g.Elements())
	for range n {
		i := r.below(len(free))
		s.Points, s.Mults = append(s.Points, free[i]), append(s.Mults, 1+r.below(g.Order()-1))
		free = slices.Delete(free, i, i+1)
	}
	return s
}

// elements returns n random elements.
func (r *random) elements(g *field.GF, n int) []int {
	list := make([]int, n)
	for i := range list {
		list[i] = r.below(g.Order())
	}
	return list
}

// positions returns the positions of a random subset with size elements of those below n, in a random order.
func (r *random) positions(n, size int) []int {
	var free, list []int
	for i := range n {
		free = append(free, i)
	}
	for range size {
		i := r.below(len(free))
		list = append(list, free[i])
		free = slices.Delete(free, i, i+1)
	}
	return list
}

// codeword returns the codeword of s with the message polynomial msg, from its definition.
func codeword(g *field.GF, s api.GRS, msg []int) []int {
	word := make([]int, len(s.Points))
	for i, x := range s.Points {
		value, power := 0, 1
		for _, coefficient := range msg {
			value = g.Add(value, g.Mul(coefficient, power))
			power = g.Mul(power, x)
		}
		word[i] = g.Mul(s.Mults[i], value)
	}
	return word
}

// weight returns the number of the nonzero entries of the word.
func weight(word []int) int {
	n := 0
	for _, x := range word {
		n += min(1, x)
	}
	return n
}

// few reports whether there are at most most words of length n over a field of order q.
func few(q, n, most int) bool {
	product := 1
	for range n {
		if product *= q; product > most {
			return false
		}
	}
	return true
}

// small calls visit for random descriptions of all lengths and dimensions over small fields, with at most most codewords.
func small(t *testing.T, most int, visit func(g *field.GF, s api.GRS)) {
	t.Helper()
	r := &random{state: 1}
	list := []*field.GF{made(t, unusual[0]), made(t, unusual[1])}
	for _, q := range []int{2, 3, 4, 5, 7, 8, 9, 16, 64, 256} {
		list = append(list, standard(t, q))
	}
	for _, g := range list {
		for n := 1; n <= min(g.Order(), 9); n++ {
			for k := 0; k <= n; k++ {
				if few(g.Order(), k, most) {
					visit(g, r.described(g, n, k))
				}
			}
		}
	}
}

// great calls visit for random descriptions over all fields.
func great(t *testing.T, visit func(g *field.GF, r *random, s api.GRS)) {
	t.Helper()
	r := &random{state: 2}
	for _, g := range fields(t) {
		for range 6 {
			n := 1 + r.below(min(g.Order(), api.MaxN))
			visit(g, r, r.described(g, n, r.below(n+1)))
		}
		n := min(g.Order(), api.MaxN)
		for _, k := range []int{0, n / 2, n} {
			visit(g, r, r.described(g, n, k))
		}
	}
}
