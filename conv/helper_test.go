package conv_test

import (
	"slices"
	"testing"

	"codewright/api"
	"codewright/code"
	"codewright/conv"
	"codewright/field"
	"codewright/poly"
)

// random is a generator of numbers that are the same in each run.
type random struct{ state uint64 }

func (r *random) below(n int) int {
	r.state = r.state*6364136223846793005 + 1442695040888963407
	return int(r.state >> 33 % uint64(n))
}

// list returns n elements; one in sparse of them is any element, and the others are 0.
func (r *random) list(g *field.GF, n, sparse int) []int {
	l := make([]int, n)
	for i := range l {
		if r.below(sparse) == 0 {
			l[i] = r.below(g.Order())
		}
	}
	return l
}

// message returns n random steps.
func (r *random) message(g *field.GF, k, n int) [][]int {
	steps := make([][]int, n)
	for t := range steps {
		steps[t] = r.list(g, k, 1+r.below(3))
	}
	return steps
}

// encoder returns an encoder with k inputs and n outputs whose rows have degrees with a sum of at most total. Some have zeros behind their polynomials, and some have rows with common factors, or equal rows.
func (r *random) encoder(g *field.GF, k, n, total int) api.Conv {
	degrees := make([]int, k)
	for range total {
		degrees[r.below(k)]++
	}
	c := api.Conv{F: g.Field()}
	sparse := 1 + r.below(3)
	for _, degree := range degrees {
		factor := []int{1}
		if r.below(4) == 0 {
			factor = r.list(g, 1+r.below(degree+1), 1)
		}
		var row [][]int
		for range n {
			p := poly.Mul(g, factor, r.list(g, degree+2-len(factor), sparse))
			row = append(row, append(p, make([]int, r.below(2))...))
		}
		c.Gen = append(c.Gen, row)
	}
	if k > 1 && r.below(8) == 0 && total == 0 {
		c.Gen[k-1] = c.Gen[0]
	}
	return c
}

// encoders calls visit for encoders of many kinds for which Q^(v+k) is at most most, with at most width outputs.
func encoders(t *testing.T, most, width int, visit func(r *random, g *field.GF, c api.Conv)) {
	t.Helper()
	r := &random{state: 1}
	for _, g := range fields(t) {
		for sum, size := 1, g.Order(); size <= most; sum, size = sum+1, size*g.Order() {
			for k := 1; k <= min(sum, width); k++ {
				for _, n := range []int{k, k + 1, k + 2 + r.below(width)} {
					if n <= width {
						visit(r, g, r.encoder(g, k, n, sum-k))
					}
				}
			}
		}
	}
}

// cloned returns c in new memory.
func cloned(c api.Conv) api.Conv {
	c.F.Mod = slices.Clone(c.F.Mod)
	gen := make([][][]int, len(c.Gen))
	for i, row := range c.Gen {
		for _, p := range row {
			gen[i] = append(gen[i], slices.Clone(p))
		}
	}
	c.Gen = gen
	return c
}

// same reports whether the encoders are equal.
func same(c, d api.Conv) bool {
	return field.Same(c.F, d.F) && slices.EqualFunc(c.Gen, d.Gen, sameLists)
}

// degrees returns the degrees of the rows, from the definition.
func degrees(c api.Conv) []int {
	list := make([]int, len(c.Gen))
	for i, row := range c.Gen {
		for _, p := range row {
			for d, x := range p {
				if x != 0 {
					list[i] = max(list[i], d)
				}
			}
		}
	}
	return list
}

// memory returns the greatest degree of a row.
func memory(c api.Conv) int { return slices.Max(degrees(c)) }

// output returns the output at step t, from the definition; the inputs at other steps than those of the message are 0.
func output(g *field.GF, c api.Conv, message [][]int, t int) []int {
	out := make([]int, len(c.Gen[0]))
	for i, row := range c.Gen {
		for j, p := range row {
			for d, x := range p {
				if t-d >= 0 && t-d < len(message) {
					out[j] = g.Add(out[j], g.Mul(x, message[t-d][i]))
				}
			}
		}
	}
	return out
}

// terminated returns the terminated output, from the definition.
func terminated(g *field.GF, c api.Conv, message [][]int) [][]int {
	var out [][]int
	for t := range len(message) + memory(c) {
		out = append(out, output(g, c, message, t))
	}
	return out
}

// weight returns the number of the nonzero elements of the lists.
func weight(lists [][]int) int {
	n := 0
	for _, l := range lists {
		for _, x := range l {
			n += min(x, 1)
		}
	}
	return n
}

// power returns q to the power of n.
func power(q, n int) int {
	product := 1
	for range n {
		product *= q
	}
	return product
}

// states returns the number of states.
func states(g *field.GF, c api.Conv) int {
	n := 1
	for _, degree := range degrees(c) {
		n *= power(g.Order(), degree)
	}
	return n
}

// digits returns the n least significant digits of x in base q, the least significant one first.
func digits(q, n, x int) []int {
	l := make([]int, n)
	for i := range l {
		l[i] = x % q
		x /= q
	}
	return l
}

// step is a step from a state, from the definition: the last inputs of all rows are made a message, which the step ends.
func step(g *field.GF, c api.Conv, state int, in []int) (next int, out []int) {
	m := memory(c)
	message := make([][]int, m+1)
	for t := range message {
		message[t] = make([]int, len(c.Gen))
	}
	copy(message[m], in)
	place := 1
	for i, degree := range degrees(c) {
		for age, digit := range digits(g.Order(), degree, state/place) {
			message[m-1-age][i] = digit
		}
		for age := range degree {
			next += place * message[m-age][i]
			place *= g.Order()
		}
	}
	return next, output(g, c, message, m)
}

// words returns all lists of n elements.
func words(g *field.GF, n int) [][]int {
	var list [][]int
	for x := range power(g.Order(), n) {
		list = append(list, digits(g.Order(), n, x))
	}
	return list
}

// messages returns all messages of n steps.
func messages(g *field.GF, k, n int) [][][]int {
	var list [][][]int
	for _, w := range words(g, k*n) {
		list = append(list, slices.Collect(slices.Chunk(w, k)))
	}
	return list
}

// generated returns the code of length n that the rows generate.
func generated(t *testing.T, g *field.GF, n int, rows [][]int) api.Code {
	t.Helper()
	c, e := code.New(g.Field(), api.Matrix{Cols: n, Rows: rows})
	if e != api.OK {
		t.Fatal(n, rows, e)
	}
	return c
}

// standard returns the standard field of order q.
func standard(t *testing.T, q int) *field.GF {
	t.Helper()
	f, e := field.Standard(q)
	if e != api.OK {
		t.Fatal(q, e)
	}
	return made(t, f)
}

// made returns the field that f describes.
func made(t *testing.T, f api.Field) *field.GF {
	t.Helper()
	g, e := field.New(f)
	if e != api.OK {
		t.Fatal(f, e)
	}
	return g
}

// fields returns fields of many orders, not only the standard ones.
func fields(t *testing.T) []*field.GF {
	t.Helper()
	var list []*field.GF
	for _, q := range []int{2, 3, 4, 5, 8, 9, 16, 27, 251, 256} {
		list = append(list, standard(t, q))
	}
	for _, f := range []api.Field{{P: 3, M: 2, Mod: []int{2, 1}}, {P: 2, M: 3, Mod: []int{1, 0, 1}}, {P: 2, M: 4, Mod: []int{1, 1, 1, 1}}} {
		list = append(list, made(t, f))
	}
	return list
}

// noFields are descriptions of no field.
var noFields = []api.Field{{}, {P: 4, M: 1}, {P: 2, M: 0}, {P: 2, M: 2}, {P: 2, M: 2, Mod: []int{0, 1}}, {P: 2, M: 1, Mod: []int{1}}, {P: 257, M: 1}, {P: 2, M: 9, Mod: make([]int, 9)}, {P: -1, M: 1}}

// sameLists reports whether a and b have the same lists.
func sameLists(a, b [][]int) bool {
	return slices.EqualFunc(a, b, slices.Equal)
}

// equal reports whether c and d are equal.
func equal(c, d api.Code) bool {
	return field.Same(c.F, d.F) && c.N == d.N && sameLists(c.Gen, d.Gen)
}

// sameCode reports an error unless have is want, and e is OK.
func sameCode(t *testing.T, have api.Code, e api.Errno, want api.Code, promise string, args ...any) {
	t.Helper()
	if e != api.OK || !equal(have, want) {
		t.Errorf("%s: %v: have %v and error %d, want %v", promise, args, have, e, want)
	}
}

// sameList reports an error unless have is want, and e is OK.
func sameList(t *testing.T, have []int, e api.Errno, want []int, promise string, args ...any) {
	t.Helper()
	sameRows(t, [][]int{have}, e, [][]int{want}, promise, args...)
}

// sameRows reports an error unless have is want, and e is OK.
func sameRows(t *testing.T, have [][]int, e api.Errno, want [][]int, promise string, args ...any) {
	t.Helper()
	if e != api.OK || !sameLists(have, want) {
		t.Errorf("%s: %v: have %v and error %d, want %v", promise, args, have, e, want)
	}
}

// sameBool reports an error unless have is want, and e is OK.
func sameBool(t *testing.T, have bool, e api.Errno, want bool, promise string, args ...any) {
	t.Helper()
	if e != api.OK || have != want {
		t.Errorf("%s: %v: have %v and error %d, want %v", promise, args, have, e, want)
	}
}

// result is what a function returns: an error, and whether there is anything but zero values beside it.
type result struct {
	some bool
	e    api.Errno
}

func ofCode(c api.Code, e api.Errno) result { return result{!equal(c, api.Code{}), e} }

func ofList(l []int, e api.Errno) result { return result{len(l) > 0, e} }

func ofLists(l [][]int, e api.Errno) result { return result{len(l) > 0, e} }

func ofInverse(l [][][]int, e api.Errno) result { return result{len(l) > 0, e} }

func ofBool(is bool, e api.Errno) result { return result{is, e} }

func ofNext(next int, out []int, e api.Errno) result { return result{next != 0 || len(out) > 0, e} }

func ofFree(p api.FreePath, e api.Errno) result {
	return result{p.Distance != 0 || len(p.Message) > 0 || len(p.Potential) > 0, e}
}

// failed reports an error unless all results have the error want alone.
func failed(t *testing.T, results map[string]result, want api.Errno, promise string, args ...any) {
	t.Helper()
	for name, r := range results {
		if r.e != want || r.some {
			t.Errorf("%s: %s of %v: have %v, want error %d alone", promise, name, args, r, want)
		}
	}
}

// ofOne returns what all functions return for c, and for other arguments that are wrong, but not for Free.
func ofOne(c api.Conv) map[string]result {
	return map[string]result{
		"Check":        {false, conv.Check(c)},
		"Degrees":      ofList(conv.Degrees(c)),
		"Next":         ofNext(conv.Next(c, -1, nil)),
		"Encode":       ofLists(conv.Encode(c, [][]int{make([]int, 99), {-1}})),
		"Minors":       ofList(conv.Minors(c)),
		"Basic":        ofBool(conv.Basic(c)),
		"Catastrophic": ofBool(conv.Catastrophic(c)),
		"Inverse":      ofInverse(conv.Inverse(c)),
		"Terminated":   ofCode(conv.Terminated(c, 0)),
		"TailBiting":   ofCode(conv.TailBiting(c, 99)),
		"Free":         ofFree(conv.Free(c)),
		"CheckFree":    {false, conv.CheckFree(c, api.FreePath{})},
	}
}
