package bch_test

import (
	"math"
	"slices"
	"testing"

	"codewright/api"
	"codewright/bch"
	"codewright/code"
	"codewright/cyclic"
	"codewright/field"
)

// TestRoot compares with the powers of all elements.
func TestRoot(t *testing.T) {
	for _, g := range fields(t) {
		first := make([]int, api.MaxQ)
		for x := g.Order() - 1; x > 0; x-- {
			first[len(powersOf(g, x))] = x
		}
		for n := 1; n <= api.MaxN; n++ {
			have, e := bch.Root(g.Field(), n)
			if first[n] == 0 {
				failed(t, map[string]result{"Root": ofInt(have, e)}, api.ErrNone, "P17.1", g.Field(), n)
			} else if have != first[n] || e != api.OK {
				t.Errorf("P17.1: Root(%v, %d): have %d and error %d, want %d", g.Field(), n, have, e, first[n])
			}
			if exists := (g.Order()-1)%n == 0; exists != (e == api.OK) {
				t.Errorf("Words: Root(%v, %d): error %d", g.Field(), n, e)
			}
		}
		for _, n := range badLengths {
			failed(t, map[string]result{"Root": ofInt(bch.Root(g.Field(), n))}, api.ErrLength, "P17.1", g.Field(), n)
		}
	}
	for _, f := range noFields {
		for _, n := range []int{0, 1, 3, 65} {
			failed(t, map[string]result{"Root": ofInt(bch.Root(f, n))}, api.ErrField, "P17.1", f, n)
		}
	}
}

func TestClosure(t *testing.T) {
	r := &random{state: 1}
	for q := 2; q <= api.MaxQ; q++ {
		for n := 1; n <= api.MaxN; n++ {
			exponents := r.exponents(r.below(5), n)
			before := slices.Clone(exponents)
			have, e := bch.Closure(q, n, exponents)
			if divisor(q, n) != 1 {
				failed(t, map[string]result{"Closure": ofList(have, e)}, api.ErrMatch, "P17.2", q, n)
				continue
			}
			sameList(t, have, e, closure(q, n, exponents), "P17.2: Closure", q, n, exponents)
			if !slices.Equal(exponents, before) {
				t.Fatalf("Rules: Closure(%d, %d, %v) changes its argument", q, n, before)
			}
		}
	}
	for _, exponents := range [][]int{{math.MinInt}, {math.MaxInt}, {-1 << 31, 1 << 40, 5, 5}, {}, nil, {0, 7, -14}} {
		have, e := bch.Closure(2, 7, exponents)
		sameList(t, have, e, closure(2, 7, exponents), "P17.2: Closure", exponents)
	}
	have, e := bch.Closure(2, 7, []int{3})
	sameList(t, have, e, []int{3, 5, 6}, "Examples: Closure")
	have, e = bch.Closure(10, 1, []int{-4})
	sameList(t, have, e, []int{0}, "P17.2: Closure", "n 1")
}

func TestErrorsOfClosure(t *testing.T) {
	of := func(q, n int) map[string]result {
		return map[string]result{"Closure": ofList(bch.Closure(q, n, []int{1}))}
	}
	for _, q := range []int{math.MinInt, -2, 0, 1, 257, 1 << 32, math.MaxInt} {
		for _, n := range []int{-1, 0, 1, 2, 7, 65} {
			failed(t, of(q, n), api.ErrRange, "P17.2", q, n)
		}
	}
	for _, q := range []int{2, 3, 6, 255, 256} {
		for _, n := range badLengths {
			failed(t, of(q, n), api.ErrLength, "P17.2", q, n)
		}
	}
	for _, x := range [][2]int{{2, 2}, {2, 64}, {256, 64}, {15, 35}, {6, 9}, {61, 61}} {
		failed(t, of(x[0], x[1]), api.ErrMatch, "P17.2", x)
	}
}

// TestCodesOfZeros goes through all words, and all sets of zeros or some of them.
func TestCodesOfZeros(t *testing.T) {
	r := &random{state: 2}
	for _, q := range []int{2, 3, 4, 5, 7, 8, 9, 16, 25, 27, 64} {
		big := standard(t, q)
		for _, small := range subfields(t, big) {
			for _, n := range lengths(big) {
				if count(small.Order(), n, 1<<13) == 1<<13 {
					continue
				}
				x, list := extended(t, small, big, n), words(small, n)
				for range 12 {
					compared(t, x, list, r.exponents(r.below(4), n))
				}
			}
		}
	}
}

// compared reports an error unless FromZeros and Zeros are as they must be; list has all words.
func compared(t *testing.T, x extension, list [][]int, exponents []int) {
	t.Helper()
	f, e, n := x.small.Field(), x.big.Field(), len(x.powers)
	var rows [][]int
	for _, w := range list {
		inside := true
		for _, i := range exponents {
			inside = inside && x.value(w, i) == 0
		}
		// The first words that are not multiples of others suffice; those with 1 behind zeros.
		if first := slices.IndexFunc(w, func(x int) bool { return x != 0 }); inside && first >= 0 && w[first] == 1 {
			rows = append(rows, w)
		}
	}
	want := spannedBy(t, x.small, n, rows)
	have, err := bch.FromZeros(f, e, n, exponents)
	sameCode(t, have, err, want, "P17.4: FromZeros", f, e, n, exponents)
	zeros, err := bch.Zeros(have, e)
	sameList(t, zeros, err, x.zeros(want.Gen), "P17.3: Zeros", want)
	if union := closure(x.small.Order(), n, exponents); !slices.Equal(zeros, union) || len(have.Gen) != n-len(union) {
		t.Errorf("P17.7: the code of %v over %v of length %d has dimension %d and the zeros %v, want %v", exponents, f, n, len(have.Gen), zeros, union)
	}
}

// spannedBy returns the code that any number of rows generate.
func spannedBy(t *testing.T, g *field.GF, n int, rows [][]int) api.Code {
	t.Helper()
	c := generated(t, g, n, nil)
	for part := range slices.Chunk(rows, api.MaxRows-n) {
		c = generated(t, g, n, append(part[:len(part):len(part)], c.Gen...))
	}
	return c
}

// TestZerosOfAnyCode has codes that are not cyclic.
func TestZerosOfAnyCode(t *testing.T) {
	r := &random{state: 3}
	for _, big := range fields(t) {
		for _, small := range subfields(t, big) {
			for _, n := range lengths(big) {
				x := extended(t, small, big, n)
				var rows [][]int
				for range r.below(4) {
					rows = append(rows, r.list(small, n, 2))
				}
				c := generated(t, small, n, rows)
				before := spannedBy(t, small, n, c.Gen)
				have, e := bch.Zeros(c, big.Field())
				sameList(t, have, e, x.zeros(c.Gen), "P17.3: Zeros", c, big.Field())
				sameCode(t, c, api.OK, before, "Rules: Zeros changes its argument")
			}
		}
	}
	whole, _ := code.Whole(standard(t, 3).Field(), 8)
	have, e := bch.Zeros(whole, standard(t, 9).Field())
	sameList(t, have, e, nil, "P17.3: Zeros of all words")
	have, e = bch.Zeros(api.Code{F: whole.F, N: 4}, standard(t, 9).Field())
	sameList(t, have, e, []int{0, 1, 2, 3}, "P17.3: Zeros of the zero code")
}

// TestGreatCodesOfZeros has codes that are too large to go through all words: a code inside that of the zeros has its dimension just if it is that.
func TestGreatCodesOfZeros(t *testing.T) {
	r := &random{state: 4}
	for _, big := range fields(t) {
		for _, small := range subfields(t, big) {
			for _, n := range lengths(big) {
				x, exponents := extended(t, small, big, n), r.exponents(r.below(6), n)
				c, e := bch.FromZeros(small.Field(), big.Field(), n, exponents)
				if e != api.OK || c.N != n || !field.Same(c.F, small.Field()) {
					t.Fatalf("P17.4: FromZeros(%v, %v, %d, %v): have %v and error %d", small.Field(), big.Field(), n, exponents, c, e)
				}
				union := closure(small.Order(), n, exponents)
				if zeros := x.zeros(c.Gen); !slices.Equal(zeros, union) || len(c.Gen) != n-len(union) {
					t.Errorf("P17.7: the code of %v over %v of length %d has dimension %d and the zeros %v, want %v", exponents, small.Field(), n, len(c.Gen), zeros, union)
				}
				if is, e := cyclic.Is(c); !is || e != api.OK {
					t.Errorf("P17.7: the code of %v over %v of length %d is not cyclic, or error %d", exponents, small.Field(), n, e)
				}
				again, e := bch.FromZeros(small.Field(), big.Field(), n, union)
				sameCode(t, again, e, c, "P17.4: FromZeros of the closure", exponents)
			}
		}
	}
}

// TestNew compares with FromZeros for all starts and all designed distances of short codes, and some of longer ones.
func TestNew(t *testing.T) {
	r := &random{state: 5}
	for _, big := range fields(t) {
		for _, small := range subfields(t, big) {
			for _, n := range lengths(big) {
				for range 3 {
					designed(t, small, big, n, r.below(n), 1+r.below(n+1))
				}
				if n > 9 || big.Order() > 16 {
					continue
				}
				for b := range n {
					for delta := 1; delta <= n+1; delta++ {
						designed(t, small, big, n, b, delta)
					}
				}
			}
		}
	}
}

// designed reports an error unless New is as it must be.
func designed(t *testing.T, small, big *field.GF, n, b, delta int) {
	t.Helper()
	var exponents []int
	for i := b; i <= b+delta-2; i++ {
		exponents = append(exponents, i)
	}
	have, e := bch.New(small.Field(), big.Field(), n, b, delta)
	want, _ := bch.FromZeros(small.Field(), big.Field(), n, exponents)
	sameCode(t, have, e, want, "P17.4: New", small.Field(), big.Field(), n, b, delta)
	if delta == 1 && len(have.Gen) != n {
		t.Errorf("P17.4: New(%v, %v, %d, %d, 1) is not the code of all words: %v", small.Field(), big.Field(), n, b, have)
	}
	if delta == n+1 && len(have.Gen) != 0 {
		t.Errorf("P17.4: New(%v, %v, %d, %d, %d) is not the zero code: %v", small.Field(), big.Field(), n, b, delta, have)
	}
	if count(small.Order(), len(have.Gen), 1<<9) == 1<<9 {
		return
	}
	if weight := leastWeight(have); weight < delta {
		t.Errorf("P17.7: New(%v, %v, %d, %d, %d) has a word of weight %d", small.Field(), big.Field(), n, b, delta, weight)
	}
}

// leastWeight returns the least weight of a nonzero word of c; for the zero code, more than all weights.
func leastWeight(c api.Code) int {
	least := math.MaxInt
	for _, w := range code.Walk(c) {
		weight := 0
		for _, x := range w {
			weight += min(1, x)
		}
		if weight > 0 {
			least = min(least, weight)
		}
	}
	return least
}

// ofCodes returns what FromZeros and New return.
func ofCodes(f, e api.Field, n, b, delta int) map[string]result {
	return map[string]result{
		"FromZeros": ofCode(bch.FromZeros(f, e, n, []int{b, delta})),
		"New":       ofCode(bch.New(f, e, n, b, delta)),
	}
}

func TestErrorsOfCodes(t *testing.T) {
	two, three, four, eight := standard(t, 2).Field(), standard(t, 3).Field(), standard(t, 4).Field(), standard(t, 8).Field()
	bounds := [][2]int{{0, 1}, {-1, 0}, {99, 99}}
	for _, x := range bounds {
		b, delta := x[0], x[1]
		for _, no := range noFields {
			for _, n := range []int{-1, 0, 3, 5, 65} {
				failed(t, ofCodes(no, eight, n, b, delta), api.ErrField, "P17.4", no, n, b, delta)
				failed(t, ofCodes(no, no, n, b, delta), api.ErrField, "P17.4", no, n, b, delta)
				failed(t, ofCodes(two, no, n, b, delta), api.ErrField, "P17.4", no, n, b, delta)
				failed(t, ofCodes(three, no, n, b, delta), api.ErrField, "P17.4", no, n, b, delta)
			}
		}
		for _, n := range badLengths {
			failed(t, ofCodes(two, eight, n, b, delta), api.ErrLength, "P17.4", n, b, delta)
			failed(t, ofCodes(three, eight, n, b, delta), api.ErrLength, "P17.4", n, b, delta)
		}
		for _, n := range []int{1, 3, 5, 7, 64} {
			failed(t, ofCodes(three, eight, n, b, delta), api.ErrMatch, "P17.4", n, b, delta)
			failed(t, ofCodes(four, eight, n, b, delta), api.ErrMatch, "P17.4", n, b, delta)
			failed(t, ofCodes(eight, two, n, b, delta), api.ErrMatch, "P17.4", n, b, delta)
			failed(t, ofCodes(eight, three, n, b, delta), api.ErrMatch, "P17.4", n, b, delta)
		}
		for _, n := range []int{2, 3, 6, 8, 14, 63, 64} {
			failed(t, ofCodes(two, eight, n, b, delta), api.ErrNone, "P17.4", n, b, delta)
			failed(t, ofCodes(eight, eight, n, b, delta), api.ErrNone, "P17.4", n, b, delta)
		}
	}
	for _, x := range [][2]int{{-1, 3}, {7, 3}, {math.MinInt, 1}, {math.MaxInt, 8}, {0, 0}, {0, -1}, {0, 9}, {6, 9}, {0, math.MaxInt}, {0, math.MinInt}} {
		failed(t, map[string]result{"New": ofCode(bch.New(two, eight, 7, x[0], x[1]))}, api.ErrRange, "P17.4", x)
	}
	for _, b := range []int{0, 6} {
		for _, delta := range []int{1, 8} {
			if _, e := bch.New(two, eight, 7, b, delta); e != api.OK {
				t.Errorf("P17.4: New for b %d and delta %d: error %d", b, delta, e)
			}
		}
	}
}

func TestErrorsOfZeros(t *testing.T) {
	two, three, four, eight := standard(t, 2).Field(), standard(t, 3).Field(), standard(t, 4).Field(), standard(t, 8).Field()
	of := func(c api.Code, e api.Field) map[string]result {
		return map[string]result{"Zeros": ofList(bch.Zeros(c, e))}
	}
	for want, c := range map[api.Errno]api.Code{
		api.ErrField:   {F: api.Field{P: 4, M: 1}, N: 0, Gen: digits("10")},
		api.ErrLength:  {F: two, N: 65, Gen: digits("10")},
		api.ErrShape:   {F: two, N: 3, Gen: [][]int{{0, -1, 0}, {0, 0}}},
		api.ErrElement: {F: two, N: 3, Gen: digits("010", "002")},
		api.ErrForm:    {F: two, N: 3, Gen: digits("010", "100")},
	} {
		for _, e := range append([]api.Field{two, three, eight}, noFields...) {
			failed(t, of(c, e), want, "P17.3", c, e)
		}
	}
	c := api.Code{F: four, N: 7, Gen: digits("1111111")}
	for _, no := range noFields {
		failed(t, of(c, no), api.ErrField, "P17.3", no)
	}
	for _, e := range []api.Field{two, three, eight, standard(t, 128).Field()} {
		failed(t, of(c, e), api.ErrMatch, "P17.3", e)
	}
	for _, e := range []api.Field{four, standard(t, 16).Field(), standard(t, 256).Field()} {
		failed(t, of(c, e), api.ErrNone, "P17.3", e)
	}
	have, e := bch.Zeros(c, standard(t, 64).Field())
	sameList(t, have, e, []int{1, 2, 3, 4, 5, 6}, "P17.3: Zeros", c)
}

func TestExamples(t *testing.T) {
	two, eight := standard(t, 2), standard(t, 8)
	if root, e := bch.Root(eight.Field(), 7); root != 2 || e != api.OK {
		t.Errorf("Examples: Root: %d and error %d", root, e)
	}
	c, e := bch.New(two.Field(), eight.Field(), 7, 1, 3)
	want := api.Code{F: two.Field(), N: 7, Gen: digits("1000110", "0100011", "0010111", "0001101")}
	sameCode(t, c, e, want, "Examples: New")
	zeros, e := bch.Zeros(c, eight.Field())
	sameList(t, zeros, e, []int{1, 2, 4}, "Examples: Zeros")
}

// TestNewMemory changes arguments behind the calls.
func TestNewMemory(t *testing.T) {
	small := api.Field{P: 2, M: 2, Mod: []int{1, 1}}
	big := api.Field{P: 2, M: 4, Mod: []int{1, 1, 0, 0}}
	exponents := []int{1, -2}
	c, e := bch.FromZeros(small, big, 5, exponents)
	d, err := bch.New(small, big, 5, 1, 3)
	if e != api.OK || err != api.OK {
		t.Fatal(e, err)
	}
	if !slices.Equal(exponents, []int{1, -2}) || !slices.Equal(small.Mod, []int{1, 1}) || !slices.Equal(big.Mod, []int{1, 1, 0, 0}) {
		t.Error("Rules: the arguments change", exponents, small, big)
	}
	small.Mod[0], big.Mod[0], exponents[0] = 0, 0, 0
	if code.Check(c) != api.OK || code.Check(d) != api.OK {
		t.Error("Rules: the codes keep their arguments", c, d)
	}
}
