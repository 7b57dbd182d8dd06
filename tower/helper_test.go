package tower_test

import (
	"math"
	"slices"
	"testing"

	"codewright/api"
	"codewright/field"
)

// random is a generator of numbers that are the same in each run.
type random struct{ state uint64 }

func (r *random) below(n int) int {
	r.state = r.state*6364136223846793005 + 1442695040888963407
	return int(r.state >> 33 % uint64(n))
}

// made returns the field that f describes.
func made(t *testing.T, f api.Field) *field.GF {
	t.Helper()
	g, e := field.New(f)
	if e != api.OK {
		t.Fatal(f, e)
	}
	return g
}

// described returns the descriptions of the standard fields of many orders, and of others of the same orders.
func described(t *testing.T) []api.Field {
	t.Helper()
	var list []api.Field
	for _, q := range []int{2, 3, 4, 5, 7, 8, 9, 16, 25, 27, 32, 49, 64, 81, 121, 125, 127, 128, 169, 243, 251, 256} {
		f, e := field.Standard(q)
		if e != api.OK {
			t.Fatal(q, e)
		}
		list = append(list, f)
	}
	others := []api.Field{
		{P: 2, M: 3, Mod: []int{1, 0, 1}},
		{P: 3, M: 2, Mod: []int{2, 1}},
		{P: 3, M: 2, Mod: []int{2, 2}},
		{P: 2, M: 4, Mod: []int{1, 0, 0, 1}},
		{P: 2, M: 4, Mod: []int{1, 1, 1, 1}},
		{P: 5, M: 2, Mod: []int{2, 4}},
		{P: 3, M: 4, Mod: []int{2, 1, 0, 0}},
		{P: 2, M: 6, Mod: []int{1, 0, 0, 1, 0, 0}},
		{P: 2, M: 8, Mod: []int{1, 0, 1, 1, 1, 0, 0, 0}},
	}
	return append(list, others...)
}

// fields returns the fields of described.
func fields(t *testing.T) []*field.GF {
	t.Helper()
	var list []*field.GF
	for _, f := range described(t) {
		list = append(list, made(t, f))
	}
	return list
}

// sixteen returns the field of the chapter's examples.
func sixteen(t *testing.T) *field.GF {
	t.Helper()
	return made(t, api.Field{P: 2, M: 4, Mod: []int{1, 1, 0, 0}})
}

// strangers are ints that are not elements of g.
func strangers(g *field.GF) []int {
	q := g.Order()
	return []int{-1, -2, -q, q, q + 1, 2*q - 1, 257, 1 << 32, 1<<32 + 1, math.MaxInt, math.MinInt, math.MinInt + 1}
}

// every returns the elements of g, and strangers.
func every(g *field.GF) []int {
	var list []int
	for x := range g.Elements() {
		list = append(list, x)
	}
	return append(list, strangers(g)...)
}

// counted returns x as it counts: 0 if it is not an element.
func counted(g *field.GF, x int) int {
	if x < 0 || x >= g.Order() {
		return 0
	}
	return x
}

// degrees returns the degrees of the subfields of g.
func degrees(g *field.GF) []int {
	var list []int
	for d := 1; d <= g.Field().M; d++ {
		if g.Field().M%d == 0 {
			list = append(list, d)
		}
	}
	return list
}

// wrong returns ints that are no degrees of subfields of g.
func wrong(g *field.GF) []int {
	list := []int{0, -1, -2, -g.Field().M, 2 * g.Field().M, math.MaxInt, math.MinInt, math.MinInt + 1}
	for d := 1; d <= g.Field().M+2; d++ {
		if g.Field().M%d != 0 {
			list = append(list, d)
		}
	}
	return list
}

// raised returns x^(P^k), made by products.
func raised(g *field.GF, x, k int) int {
	x = counted(g, x)
	for range k {
		power := 1
		for range g.Field().P {
			power = g.Mul(power, x)
		}
		x = power
	}
	return x
}

// inside returns for each element whether it is in the subfield of degree d, and their list.
func inside(g *field.GF, d int) ([]bool, []int) {
	marks, list := make([]bool, g.Order()), []int{}
	for x := range g.Elements() {
		if raised(g, x, d) == x {
			marks[x] = true
			list = append(list, x)
		}
	}
	return marks, list
}

// tuples calls yield with every list of n entries of l.
func tuples(l []int, n int, yield func([]int)) {
	list := make([]int, n)
	var fill func(int)
	fill = func(i int) {
		if i == n {
			yield(list)
			return
		}
		for _, x := range l {
			list[i] = x
			fill(i + 1)
		}
	}
	fill(0)
}

// spans returns for each element its coordinates with respect to l over the subfield with the elements sub, or false if there is an element that has none, or several.
func spans(g *field.GF, l, sub []int) (map[int][]int, bool) {
	coordinates, twice := map[int][]int{}, false
	tuples(sub, len(l), func(c []int) {
		sum := 0
		for i, x := range l {
			sum = g.Add(sum, g.Mul(c[i], counted(g, x)))
		}
		twice = twice || coordinates[sum] != nil
		coordinates[sum] = slices.Clone(c)
	})
	return coordinates, !twice && len(coordinates) == g.Order()
}

// basis returns a random basis of g over the subfield of degree d with the elements sub, and the coordinates of all elements.
func (r *random) basis(g *field.GF, d int, sub []int) ([]int, map[int][]int) {
	for {
		l := make([]int, g.Field().M/d)
		for i := range l {
			l[i] = r.below(g.Order())
		}
		if coordinates, ok := spans(g, l, sub); ok {
			return l, coordinates
		}
	}
}

// sameList reports an error unless have is want, and e is OK.
func sameList(t *testing.T, have []int, e api.Errno, want []int, promise string, g *field.GF, args ...any) {
	t.Helper()
	if e != api.OK || !slices.Equal(have, want) {
		t.Errorf("%s: %v: %v: have %v and error %d, want %v", promise, g.Field(), args, have, e, want)
	}
}

// sameInt reports an error unless have is want, and e is OK.
func sameInt(t *testing.T, have int, e api.Errno, want int, promise string, g *field.GF, args ...any) {
	t.Helper()
	if e != api.OK || have != want {
		t.Errorf("%s: %v: %v: have %d and error %d, want %d", promise, g.Field(), args, have, e, want)
	}
}
