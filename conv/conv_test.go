package conv_test

import (
	"math"
	"slices"
	"testing"

	"codewright/api"
	"codewright/conv"
	"codewright/field"
)

// example is the encoder of the chapter's examples.
var example = api.Conv{F: api.Field{P: 2, M: 1}, Gen: [][][]int{{{1, 0, 1}, {1, 1, 1}}}}

func TestCheck(t *testing.T) {
	encoders(t, 1<<16, api.MaxN, func(_ *random, _ *field.GF, c api.Conv) {
		before := cloned(c)
		if e := conv.Check(c); e != api.OK {
			t.Errorf("P20.1: Check(%v): error %d", c, e)
		}
		have, e := conv.Degrees(c)
		sameList(t, have, e, degrees(c), "P20.1: Degrees", c)
		if !same(c, before) {
			t.Errorf("Rules: Degrees changes %v", before)
		}
	})
}

// broken returns encoders over f with the errors that Check finds behind ErrField; each of them has the later errors also, where this is possible.
func broken(g *field.GF) map[api.Errno][]api.Conv {
	f, q := g.Field(), g.Order()
	big := append(make([]int, 17), 1)
	list := map[api.Errno][]api.Conv{}
	for e, l := range map[api.Errno][][][][]int{
		api.ErrShape: {
			nil, {}, {{}}, {nil, nil}, {{}, {{1}}}, {{{q}}, {}}, {{{1}, {1}}, {{1}}}, {{{q}}, {{1}, big}}, {{{1}}, {{1}}}, {{{1}, {1}}, {{1}, {1}}, {{1}, {q}}},
			{make([][]int, 65), make([][]int, 64)}, make([][][]int, 300), {{{1}, {1}, {1}}, {{1}, {1}, {1}}, {{1}, {1}}},
		},
		api.ErrLength: {
			{make([][]int, 65)}, {append(make([][]int, 64), []int{q})}, {append(make([][]int, 300), big)}, {append(make([][]int, 64), []int{1}), append(make([][]int, 64), []int{-1})},
		},
		api.ErrElement: {
			{{{q}}}, {{{-1}}}, {{{1}, {1, math.MaxInt}}, {{1}, {1}}}, {{big, {0}}, {{1}, {1, 0, math.MinInt}}}, {{append(slices.Clone(big), q)}}, {append(make([][]int, 63), []int{0, q})},
		},
		api.ErrBig: {
			{{big}}, {{{1}, big}}, {{{1}, {1}}, {{1}, big}}, {{make([]int, 3), append(make([]int, 70000), 1)}},
			{{make([]int, 3), big, {1}}, {{1}, {1}, big}},
		},
	} {
		for _, gen := range l {
			list[e] = append(list[e], api.Conv{F: f, Gen: gen})
		}
	}
	return list
}

func TestErrorsOfCheck(t *testing.T) {
	for _, g := range fields(t) {
		for want, list := range broken(g) {
			for _, c := range list {
				failed(t, ofOne(c), want, "P20.1", c)
				for _, no := range noFields {
					c.F = no
					failed(t, ofOne(c), api.ErrField, "P20.1", c)
				}
			}
		}
	}
	for _, no := range noFields {
		failed(t, ofOne(api.Conv{F: no, Gen: example.Gen}), api.ErrField, "P20.1", no)
	}
}

// TestLimit has the greatest encoders that there may be, and others that are just too great.
func TestLimit(t *testing.T) {
	for q, most := range map[int]int{2: 16, 3: 10, 4: 8, 5: 6, 16: 4, 37: 3, 41: 2, 251: 2, 256: 2} {
		f := api.Conv{F: api.Field{P: q, M: 1}}
		if q == 4 || q == 16 || q == 256 {
			f.F = standard(t, q).Field()
		}
		for k := 1; k <= most+1; k++ {
			for _, extra := range []int{0, 1} {
				degree := most - k + extra
				if degree < 0 {
					continue
				}
				c := f
				for i := range k {
					row := make([][]int, k)
					row[i] = []int{1, 0, 0}
					if i == k/2 {
						row[i] = append(make([]int, degree), 1)
					}
					c.Gen = append(c.Gen, row)
				}
				want := []api.Errno{api.OK, api.ErrBig}[extra]
				if e := conv.Check(c); e != want {
					t.Errorf("P20.1: Check with q = %d, k = %d, v = %d: error %d, want %d", q, k, degree, e, want)
				}
			}
		}
	}
}

func TestNext(t *testing.T) {
	encoders(t, 1<<9, 6, func(r *random, g *field.GF, c api.Conv) {
		before := cloned(c)
		all := states(g, c)
		for state := range all {
			for range 2 {
				in := r.list(g, len(c.Gen), 1)
				kept := slices.Clone(in)
				next, out, e := conv.Next(c, state, in)
				want, values := step(g, c, state, in)
				if next != want || !slices.Equal(out, values) || e != api.OK {
					t.Fatalf("P20.2: Next(%v, %d, %v): have %d, %v and error %d, want %d, %v", c, state, in, next, out, e, want, values)
				}
				if !slices.Equal(in, kept) {
					t.Errorf("Rules: Next changes %v", kept)
				}
			}
		}
		of := func(state int, in []int) map[string]result {
			return map[string]result{"Next": ofNext(conv.Next(c, state, in))}
		}
		k, q := len(c.Gen), g.Order()
		for _, state := range []int{math.MinInt, -1, all, all + 1, math.MaxInt} {
			for _, in := range [][]int{nil, make([]int, k), slices.Repeat([]int{q}, k)} {
				failed(t, of(state, in), api.ErrRange, "P20.2", c, state, in)
			}
		}
		for _, n := range []int{0, k - 1, k + 1, 99} {
			failed(t, of(all-1, slices.Repeat([]int{-1}, n)), api.ErrLength, "P20.2", c, n)
		}
		for _, x := range []int{-1, q, math.MaxInt, math.MinInt} {
			in := make([]int, k)
			in[r.below(k)] = x
			failed(t, of(0, in), api.ErrElement, "P20.2", c, in)
		}
		if !same(c, before) {
			t.Errorf("Rules: Next changes %v", before)
		}
	})
}

// TestEncode compares with the definition, and with the steps of Next.
func TestEncode(t *testing.T) {
	encoders(t, 1<<16, 20, func(r *random, g *field.GF, c api.Conv) {
		before := cloned(c)
		for _, n := range []int{0, 1, 2, 3 + r.below(20)} {
			message := r.message(g, len(c.Gen), n)
			var want [][]int
			state := 0
			for i, in := range message {
				want = append(want, output(g, c, message, i))
				next, out, e := conv.Next(c, state, in)
				sameList(t, out, e, want[i], "P20.2: Next behind other steps", c, message, i)
				state = next
			}
			have, e := conv.Encode(c, message)
			sameRows(t, have, e, want, "P20.3: Encode", c, message)
			other := r.message(g, len(c.Gen), n)
			second, _ := conv.Encode(c, other)
			factor := r.below(g.Order())
			sum, e := conv.Encode(c, combined(g, message, factor, other))
			sameRows(t, sum, e, combined(g, have, factor, second), "P20.7: Encode of a sum", c, message, factor, other)
			late, e := conv.Encode(c, append([][]int{make([]int, len(c.Gen))}, message...))
			sameRows(t, late, e, append([][]int{make([]int, len(c.Gen[0]))}, want...), "P20.7: Encode behind zeros", c, message)
			for _, l := range have {
				l[0] = -1
				_ = append(l, -1)
			}
			again, e := conv.Encode(c, message)
			sameRows(t, again, e, want, "Rules: Encode", c, message)
		}
		if !same(c, before) {
			t.Errorf("Rules: Encode changes %v", before)
		}
	})
}

// combined returns the sum of the lists of a and factor times those of b.
func combined(g *field.GF, a [][]int, factor int, b [][]int) [][]int {
	out := make([][]int, len(a))
	for i, l := range a {
		out[i] = make([]int, len(l))
		for j, x := range l {
			out[i][j] = g.Add(x, g.Mul(factor, b[i][j]))
		}
	}
	return out
}

func TestErrorsOfEncode(t *testing.T) {
	encoders(t, 1<<8, 5, func(r *random, g *field.GF, c api.Conv) {
		k, q := len(c.Gen), g.Order()
		good := make([]int, k)
		foreign := slices.Repeat([]int{q}, k)
		for _, x := range []struct {
			steps [][]int
			want  api.Errno
		}{
			{[][]int{foreign, {}}, api.ErrElement},
			{[][]int{{}, foreign}, api.ErrLength},
			{[][]int{good, good, append(foreign, 0)}, api.ErrLength},
			{[][]int{good, foreign[1:], foreign}, api.ErrLength},
			{[][]int{good, append([]int{-1}, good[1:]...), nil}, api.ErrElement},
			{[][]int{good, good, nil}, api.ErrLength},
			{[][]int{append(slices.Clone(good[1:]), math.MinInt)}, api.ErrElement},
		} {
			failed(t, map[string]result{"Encode": ofLists(conv.Encode(c, x.steps))}, x.want, "P20.3", c, x.steps)
		}
	})
}

// TestLongMessage has more steps than most.
func TestLongMessage(t *testing.T) {
	r := &random{state: 2}
	g := standard(t, 4)
	c := r.encoder(g, 2, 3, 5)
	message := r.message(g, 2, 20000)
	have, e := conv.Encode(c, message)
	for i := 0; i < len(message); i += 777 {
		sameList(t, have[i], e, output(g, c, message, i), "P20.3: Encode of a long message", i)
	}
}

func TestExamples(t *testing.T) {
	d, e := conv.Degrees(example)
	sameList(t, d, e, []int{2}, "Examples: Degrees")
	for _, x := range []struct {
		state, in, next int
		out             []int
	}{{0, 1, 1, []int{1, 1}}, {1, 0, 2, []int{0, 1}}, {2, 0, 0, []int{1, 1}}, {3, 0, 2, []int{1, 0}}} {
		next, out, e := conv.Next(example, x.state, []int{x.in})
		if next != x.next {
			t.Errorf("Examples: Next of %d and %d is %d", x.state, x.in, next)
		}
		sameList(t, out, e, x.out, "Examples: Next", x.state, x.in)
	}
	m, e := conv.Minors(example)
	sameList(t, m, e, []int{1}, "Examples: Minors")
	bad := api.Conv{F: example.F, Gen: [][][]int{{{1, 1}, {1, 0, 1}}}}
	m, e = conv.Minors(bad)
	sameList(t, m, e, []int{1, 1}, "Examples: Minors")
	is, e := conv.Catastrophic(bad)
	sameBool(t, is, e, true, "Examples: Catastrophic")
	c, e := conv.Terminated(example, 1)
	sameCode(t, c, e, api.Code{F: example.F, N: 6, Gen: [][]int{{1, 1, 0, 1, 1, 1}}}, "Examples: Terminated")
	c, e = conv.TailBiting(example, 3)
	if c.N != 6 || e != api.OK {
		t.Errorf("Examples: TailBiting: %v and error %d", c, e)
	}
	p, e := conv.Free(example)
	if p.Distance != 5 || e != api.OK {
		t.Errorf("Examples: Free: %v and error %d", p, e)
	}
	proof := api.FreePath{Distance: 5, Message: [][]int{{1}}, Potential: []int{0, 3, 2, 2}}
	if e := conv.CheckFree(example, proof); e != api.OK {
		t.Errorf("Examples: CheckFree: error %d", e)
	}
}
