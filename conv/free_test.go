package conv_test

import (
	"math"
	"slices"
	"testing"

	"codewright/api"
	"codewright/code"
	"codewright/conv"
	"codewright/field"
)

// edge is a step of an encoder.
type edge struct {
	from, to, weight int
	idle             bool // the inputs are 0
}

// edges returns all steps.
func edges(g *field.GF, c api.Conv) []edge {
	var list []edge
	for state := range states(g, c) {
		for _, in := range words(g, len(c.Gen)) {
			next, out := step(g, c, state, in)
			list = append(list, edge{state, next, weight([][]int{out}), weight([][]int{in}) == 0})
		}
	}
	return list
}

// distance returns the free distance: by steps to and fro until no way from the state 0 back to it gets lighter.
func distance(g *field.GF, c api.Conv, list []edge) int {
	const far = 1 << 40
	least := slices.Repeat([]int{far}, states(g, c))
	for _, x := range list {
		if x.from == 0 && !x.idle {
			least[x.to] = min(least[x.to], x.weight)
		}
	}
	for again := true; again; {
		again = false
		for _, x := range list {
			if total := least[x.from] + x.weight; total < least[x.to] {
				least[x.to] = total
				again = true
			}
		}
	}
	return least[0]
}

// isProof reports whether p is a proof, from the definition.
func isProof(g *field.GF, c api.Conv, list []edge, p api.FreePath) bool {
	nonzero := false
	for _, in := range p.Message {
		if len(in) != len(c.Gen) || slices.ContainsFunc(in, func(x int) bool { return !g.Is(x) }) {
			return false
		}
		nonzero = nonzero || weight([][]int{in}) > 0
	}
	if !nonzero || weight(terminated(g, c, p.Message)) != p.Distance || len(p.Potential) != states(g, c) || p.Potential[0] != 0 {
		return false
	}
	for _, x := range p.Potential {
		if x < 0 || x > 1<<31 {
			return false
		}
	}
	for _, x := range list {
		switch {
		case x.from != 0 && p.Potential[x.from] > x.weight+p.Potential[x.to]:
			return false
		case x.from == 0 && !x.idle && p.Distance > x.weight+p.Potential[x.to]:
			return false
		}
	}
	return true
}

// TestFree compares with the least weights of ways, and with those of short messages.
func TestFree(t *testing.T) {
	encoders(t, 1<<9, 6, func(_ *random, g *field.GF, c api.Conv) {
		before := cloned(c)
		list := edges(g, c)
		p, e := conv.Free(c)
		if want := distance(g, c, list); e != api.OK || p.Distance != want || !isProof(g, c, list, p) {
			t.Fatalf("P20.6: Free(%v): have %v and error %d, want a proof of %d", c, p, e, want)
		}
		accepted(t, c, p, api.OK)
		if k := len(c.Gen); k <= 2 && g.Order() <= 4 {
			for _, message := range messages(g, k, 3) {
				if w := weight(terminated(g, c, message)); weight(message) > 0 && w < p.Distance {
					t.Errorf("P20.7: the terminated output of the message %v of %v has the weight %d", message, c, w)
				}
			}
		}
		if !same(c, before) {
			t.Errorf("Rules: Free changes %v", before)
		}
	})
}

// accepted reports an error unless CheckFree returns want.
func accepted(t *testing.T, c api.Conv, p api.FreePath, want api.Errno) {
	t.Helper()
	before := clonedPath(p)
	if e := conv.CheckFree(c, p); e != want {
		t.Errorf("P20.6: CheckFree(%v, %v): error %d, want %d", c, p, e, want)
	}
	if !slices.Equal(p.Potential, before.Potential) || !sameLists(p.Message, before.Message) {
		t.Errorf("Rules: CheckFree changes %v", before)
	}
}

// clonedPath returns p in new memory.
func clonedPath(p api.FreePath) api.FreePath {
	p.Potential = slices.Clone(p.Potential)
	message := make([][]int, len(p.Message))
	for i, in := range p.Message {
		message[i] = slices.Clone(in)
	}
	p.Message = message
	return p
}

// changed returns p with a random change.
func (r *random) changed(g *field.GF, p api.FreePath) api.FreePath {
	p = clonedPath(p)
	state, at := r.below(len(p.Potential)), r.below(len(p.Message))
	k := len(p.Message[at])
	switch r.below(12) {
	case 0, 1, 2:
		p.Potential[state] += 1 - 2*r.below(2)
	case 3:
		p.Potential[state] = []int{0, -1, 1 << 31, 1<<31 + 1, math.MaxInt, math.MinInt}[r.below(6)]
	case 4:
		p.Distance += []int{1, -1, math.MinInt, math.MaxInt}[r.below(4)]
	case 5:
		p.Message[at] = r.list(g, k, 1)
	case 6:
		p.Message = slices.Insert(p.Message, at, make([]int, k))
	case 7:
		p.Message = append(p.Message, make([]int, k), make([]int, k))
	case 8:
		p.Message = slices.Delete(p.Message, at, at+1)
	case 9:
		p.Message[at] = append(p.Message[at], 0)[r.below(3)/2*k:]
	case 10:
		p.Message[at][r.below(k)] = []int{-1, g.Order(), math.MaxInt}[r.below(3)]
	case 11:
		p.Potential = append(p.Potential, 0)[:state+r.below(3)]
	}
	return p
}

func TestCheckFree(t *testing.T) {
	accept, reject := 0, 0
	encoders(t, 1<<9, 5, func(r *random, g *field.GF, c api.Conv) {
		list := edges(g, c)
		p, e := conv.Free(c)
		if e != api.OK {
			t.Fatal(c, e)
		}
		for range 40 {
			q := r.changed(g, p)
			want := api.OK
			if !isProof(g, c, list, q) {
				want = api.ErrReject
				reject++
			} else {
				accept++
			}
			accepted(t, c, q, want)
		}
	})
	if accept < 100 || reject < 100 {
		t.Errorf("%d proofs are accepted, %d rejected", accept, reject)
	}
}

// TestLowerPotentials has proofs with other potentials than the greatest ones.
func TestLowerPotentials(t *testing.T) {
	for _, x := range []struct {
		potential []int
		distance  int
		want      api.Errno
	}{
		{[]int{0, 3, 2, 2}, 5, api.OK},
		{[]int{0, 3, 2, 3}, 5, api.OK},
		{[]int{0, 3, 1, 2}, 5, api.ErrReject},
		{[]int{0, 2, 2, 2}, 5, api.ErrReject},
		{[]int{0, 3, 2, 2}, 4, api.ErrReject},
		{[]int{0, 0, 0, 0}, 2, api.ErrReject},
		{nil, 5, api.ErrReject},
		{[]int{0, 3, 2, 2, 0}, 5, api.ErrReject},
		{[]int{0, 3, 2}, 5, api.ErrReject},
	} {
		accepted(t, example, api.FreePath{Distance: x.distance, Message: [][]int{{1}}, Potential: x.potential}, x.want)
	}
	accepted(t, example, api.FreePath{}, api.ErrReject)
	for _, message := range [][][]int{nil, {{0}}, {{0}, {0}}, {{}}, {{1}, {}}, {{1, 0}}, {{2}}, {{-1}}} {
		accepted(t, example, api.FreePath{Distance: 5, Message: message, Potential: []int{0, 3, 2, 2}}, api.ErrReject)
		accepted(t, example, api.FreePath{Message: message, Potential: make([]int, 4)}, api.ErrReject)
	}
}

// TestGreatFree has the greatest encoders, with a bound from some of their messages.
func TestGreatFree(t *testing.T) {
	r := &random{state: 4}
	for q, most := range map[int]int{2: 16, 3: 10, 4: 8, 16: 4, 256: 2} {
		g := standard(t, q)
		for _, x := range [][2]int{{1, 2}, {1, 3}, {2, 3}, {2, 5}, {3, 8}, {most, most + 1}} {
			k, n := x[0], x[1]
			if k > most {
				continue
			}
			c := r.encoder(g, k, n, most-k)
			p, e := conv.Free(c)
			if e != api.OK || len(p.Potential) != states(g, c) || p.Potential[0] != 0 || weight(terminated(g, c, p.Message)) != p.Distance {
				t.Errorf("P20.6: Free(%v): a message of %d steps, %d potentials and error %d", c, len(p.Message), len(p.Potential), e)
			}
			accepted(t, c, p, api.OK)
			for range 50 {
				message := r.message(g, k, 1+r.below(6))
				if w := weight(terminated(g, c, message)); weight(message) > 0 && w < p.Distance {
					t.Errorf("P20.7: the terminated output of the message %v of %v has the weight %d", message, c, w)
				}
			}
		}
	}
}

// TestKnownDistances has encoders of well-known free distances, in octal digits with the constant in front.
func TestKnownDistances(t *testing.T) {
	for _, x := range []struct{ memory, a, b, want int }{{2, 0o5, 0o7, 5}, {3, 0o15, 0o17, 6}, {4, 0o23, 0o35, 7}, {5, 0o53, 0o75, 8}, {6, 0o133, 0o171, 10}, {7, 0o247, 0o371, 10}, {8, 0o561, 0o753, 12}} {
		var row [][]int
		for _, bits := range []int{x.a, x.b} {
			p := digits(2, x.memory+1, bits)
			slices.Reverse(p)
			row = append(row, p)
		}
		c := api.Conv{F: api.Field{P: 2, M: 1}, Gen: [][][]int{row}}
		p, e := conv.Free(c)
		if p.Distance != x.want || e != api.OK {
			t.Errorf("P20.6: Free(%v): have %d and error %d, want %d", c, p.Distance, e, x.want)
		}
	}
}

// TestTerminatedDistance compares the weights of the words of terminated codes with the free distance.
func TestTerminatedDistance(t *testing.T) {
	encoders(t, 1<<8, 4, func(_ *random, g *field.GF, c api.Conv) {
		p, _ := conv.Free(c)
		for steps := 1; steps <= 3; steps++ {
			d, e := conv.Terminated(c, steps)
			if size, err := code.Size(d); e != api.OK || err != api.OK || size > 1<<10 {
				return
			}
			for i, w := range code.Walk(d) {
				if i > 0 && weight([][]int{w}) < p.Distance {
					t.Errorf("P20.7: the word %v of Terminated(%v, %d) is lighter than %d", w, c, steps, p.Distance)
				}
			}
		}
	})
}
