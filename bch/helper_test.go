package bch_test

import (
	"math"
	"slices"
	"testing"

	"codewright/api"
	"codewright/code"
	"codewright/field"
	"codewright/tower"
)

// random is a generator of numbers that are the same in each run.
type random struct{ state uint64 }

func (r *random) below(n int) int {
	r.state = r.state*6364136223846793005 + 1442695040888963407
	return int(r.state >> 33 % uint64(n))
}

// list returns n elements; about one in sparse of them is not 0.
func (r *random) list(g *field.GF, n, sparse int) []int {
	l := make([]int, n)
	for i := range l {
		if r.below(sparse) == 0 {
			l[i] = r.below(g.Order())
		}
	}
	return l
}

// generated returns the code of length n that the rows generate.
func generated(t *testing.T, g *field.GF, n int, rows [][]int) api.Code {
	t.Helper()
	c, e := code.New(g.Field(), api.Matrix{Cols: n, Rows: rows})
	if e != api.OK {
		t.Fatal(n, rows, e)
	}
	return c
}

// standard returns the standard field of order q.
func standard(t *testing.T, q int) *field.GF {
	t.Helper()
	f, e := field.Standard(q)
	if e != api.OK {
		t.Fatal(q, e)
	}
	return made(t, f)
}

// made returns the field that f describes.
func made(t *testing.T, f api.Field) *field.GF {
	t.Helper()
	g, e := field.New(f)
	if e != api.OK {
		t.Fatal(f, e)
	}
	return g
}

// unusual are descriptions of fields that are not the standard ones.
var unusual = []api.Field{{P: 3, M: 2, Mod: []int{2, 1}}, {P: 2, M: 3, Mod: []int{1, 0, 1}}, {P: 2, M: 4, Mod: []int{1, 1, 1, 1}}}

// fields returns standard fields of many orders, and others.
func fields(t *testing.T) []*field.GF {
	t.Helper()
	var list []*field.GF
	for _, q := range []int{2, 3, 4, 5, 7, 8, 9, 16, 25, 27, 64, 81, 128, 243, 251, 256} {
		list = append(list, standard(t, q))
	}
	for _, f := range unusual {
		list = append(list, made(t, f))
	}
	return list
}

// noFields are descriptions of no field.
var noFields = []api.Field{{}, {P: 4, M: 1}, {P: 2, M: 0}, {P: 2, M: 2}, {P: 2, M: 2, Mod: []int{0, 1}}, {P: 2, M: 1, Mod: []int{1}}, {P: 257, M: 1}, {P: 2, M: 9, Mod: make([]int, 9)}, {P: -1, M: 1}}

// digits returns lists with the digits of the texts.
func digits(texts ...string) [][]int {
	var rows [][]int
	for _, text := range texts {
		row := []int{}
		for _, digit := range text {
			row = append(row, int(digit-'0'))
		}
		rows = append(rows, row)
	}
	return rows
}

// words returns all words of length n.
func words(g *field.GF, n int) [][]int {
	list := [][]int{{}}
	for range n {
		var longer [][]int
		for _, w := range list {
			for x := range g.Elements() {
				longer = append(longer, append(slices.Clone(w), x))
			}
		}
		list = longer
	}
	return list
}

// key returns a text that differs for different words.
func key(word []int) string {
	text := make([]byte, len(word))
	for i, x := range word {
		text[i] = byte(x)
	}
	return string(text)
}

// sameLists reports whether a and b have the same lists.
func sameLists(a, b [][]int) bool {
	return slices.EqualFunc(a, b, slices.Equal)
}

// equal reports whether c and d are equal.
func equal(c, d api.Code) bool {
	return field.Same(c.F, d.F) && c.N == d.N && sameLists(c.Gen, d.Gen)
}

// sameCode reports an error unless have is want, and e is OK.
func sameCode(t *testing.T, have api.Code, e api.Errno, want api.Code, promise string, args ...any) {
	t.Helper()
	if e != api.OK || !equal(have, want) {
		t.Errorf("%s: %v: have %v and error %d, want %v", promise, args, have, e, want)
	}
}

// sameList reports an error unless have is want, and e is OK.
func sameList(t *testing.T, have []int, e api.Errno, want []int, promise string, args ...any) {
	t.Helper()
	sameRows(t, [][]int{have}, e, [][]int{want}, promise, args...)
}

// sameRows reports an error unless have is want, and e is OK.
func sameRows(t *testing.T, have [][]int, e api.Errno, want [][]int, promise string, args ...any) {
	t.Helper()
	if e != api.OK || !sameLists(have, want) {
		t.Errorf("%s: %v: have %v and error %d, want %v", promise, args, have, e, want)
	}
}

// result is what a function returns: an error, and whether there is anything but zero values beside it.
type result struct {
	some bool
	e    api.Errno
}

func ofCode(c api.Code, e api.Errno) result { return result{!equal(c, api.Code{}), e} }

func ofList(l []int, e api.Errno) result { return result{len(l) > 0, e} }

// failed reports an error unless all results have the error want alone.
func failed(t *testing.T, results map[string]result, want api.Errno, promise string, args ...any) {
	t.Helper()
	for name, r := range results {
		if r.e != want || r.some {
			t.Errorf("%s: %s of %v: have %v, want error %d alone", promise, name, args, r, want)
		}
	}
}

func ofInt(n int, e api.Errno) result { return result{n != 0, e} }

func ofRun(n int, r api.Run, e api.Errno) result { return result{n != 0 || r != api.Run{}, e} }

// badLengths are no lengths of codes.
var badLengths = []int{math.MinInt, -1 << 31, -7, -1, 0, 65, 255, 1 << 32, math.MaxInt}

// exponents returns n ints that stand for exponents modulo length, some of them far away.
func (r *random) exponents(n, length int) []int {
	list := make([]int, n)
	for i := range list {
		list[i] = r.below(length) + []int{0, 0, length, -length, -1000 * length}[r.below(5)]
	}
	return list
}

// remainder returns the number from 0 to n-1 that x is modulo n.
func remainder(x, n int) int {
	if x %= n; x < 0 {
		return x + n
	}
	return x
}

// divisor returns the greatest common divisor of x and n: the greatest divisor of n that divides x.
func divisor(x, n int) int {
	d := n
	for n%d != 0 || x%d != 0 {
		d--
	}
	return d
}

// closure returns, in ascending order, the remainders of all products of an exponent and a power of q.
func closure(q, n int, exponents []int) []int {
	in := make([]bool, n)
	for _, x := range exponents {
		for x = remainder(x, n); !in[x]; x = x * q % n {
			in[x] = true
		}
	}
	var list []int
	for i := range n {
		if in[i] {
			list = append(list, i)
		}
	}
	return list
}

// extension is an extension of a field with the powers of an element of order n.
type extension struct {
	small, big *field.GF
	images     []int
	powers     []int
}

// extended returns big as an extension of small, with the powers of its least element of order n.
func extended(t *testing.T, small, big *field.GF, n int) extension {
	t.Helper()
	images, e := tower.Embed(small.Field(), big)
	if e != api.OK {
		t.Fatal(small.Field(), big.Field(), e)
	}
	for x := range big.Elements() {
		if powers := powersOf(big, x); x > 0 && len(powers) == n {
			return extension{small, big, images, powers}
		}
	}
	t.Fatal(big.Field(), n)
	return extension{}
}

// powersOf returns the different powers of x, from 1 on.
func powersOf(g *field.GF, x int) []int {
	list := []int{1}
	for y := x; y > 1; y = g.Mul(y, x) {
		list = append(list, y)
	}
	return list
}

// value returns the value of w at the exponent i, from its definition.
func (x extension) value(w []int, i int) int {
	sum, n := 0, len(x.powers)
	for j, entry := range w {
		sum = x.big.Add(sum, x.big.Mul(x.images[entry], x.powers[remainder(i, n)*j%n]))
	}
	return sum
}

// isZero reports whether the values of all the words at the exponent i are 0.
func (x extension) isZero(list [][]int, i int) bool {
	return !slices.ContainsFunc(list, func(w []int) bool { return x.value(w, i) != 0 })
}

// zeros returns the exponents at which the values of all the words are 0.
func (x extension) zeros(list [][]int) []int {
	var out []int
	for i := range x.powers {
		if x.isZero(list, i) {
			out = append(out, i)
		}
	}
	return out
}

// lengths returns the lengths up to MaxN of which g has a root.
func lengths(g *field.GF) []int {
	var list []int
	for n := 1; n <= min(api.MaxN, g.Order()-1); n++ {
		if (g.Order()-1)%n == 0 {
			list = append(list, n)
		}
	}
	return list
}

// subfields returns fields that g is an extension of, g itself among them.
func subfields(t *testing.T, g *field.GF) []*field.GF {
	t.Helper()
	list := []*field.GF{g}
	for q := 2; q <= g.Order(); q++ {
		f, e := field.Standard(q)
		if e == api.OK && f.P == g.Field().P && g.Field().M%f.M == 0 {
			list = append(list, made(t, f))
		}
	}
	for _, f := range unusual {
		if f.P == g.Field().P && g.Field().M%f.M == 0 {
			list = append(list, made(t, f))
		}
	}
	return list
}

// count returns q to the power of n, or most if it is less.
func count(q, n, most int) int {
	product := 1
	for range n {
		if product *= q; product >= most {
			return most
		}
	}
	return product
}
