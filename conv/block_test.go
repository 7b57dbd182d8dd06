package conv_test

import (
	"math"
	"slices"
	"testing"

	"codewright/api"
	"codewright/code"
	"codewright/conv"
	"codewright/field"
)

// tailBitten returns the output of a message that comes again and again, from the definition.
func tailBitten(g *field.GF, c api.Conv, message [][]int) [][]int {
	out := make([][]int, len(message))
	for t := range out {
		out[t] = make([]int, len(c.Gen[0]))
		for i, row := range c.Gen {
			for j, p := range row {
				for d, x := range p {
					before := message[((t-d)%len(message)+len(message))%len(message)]
					out[t][j] = g.Add(out[t][j], g.Mul(x, before[i]))
				}
			}
		}
	}
	return out
}

// key returns a text that differs for different words.
func key(word []int) string {
	text := make([]byte, len(word))
	for i, x := range word {
		text[i] = byte(x)
	}
	return string(text)
}

// sameWords reports an error unless the words of c are just those that encode makes of all messages, and those that the functions of the chapter promise.
func sameWords(t *testing.T, g *field.GF, c api.Code, all [][][]int, encode func(message [][]int) [][]int, promise string, args ...any) {
	t.Helper()
	want := map[string]bool{}
	for _, message := range all {
		want[key(slices.Concat(encode(message)...))] = true
	}
	list, e := code.Words(c)
	if e != api.OK || len(list) != len(want) {
		t.Fatalf("%s: %v: have %d words and error %d, want %d", promise, args, len(list), e, len(want))
	}
	for _, w := range list {
		if !want[key(w)] {
			t.Errorf("%s: %v: %v is no word", promise, args, w)
		}
	}
}

// TestBlocks goes through all messages.
func TestBlocks(t *testing.T) {
	encoders(t, 1<<8, 5, func(_ *random, g *field.GF, c api.Conv) {
		k, n := len(c.Gen), len(c.Gen[0])
		for steps := 1; power(g.Order(), k*steps) <= 1<<9; steps++ {
			all := messages(g, k, steps)
			if length := n * (steps + memory(c)); length <= api.MaxN {
				have, e := conv.Terminated(c, steps)
				if e != api.OK || have.N != length || !field.Same(have.F, c.F) {
					t.Fatalf("P20.5: Terminated(%v, %d): have %v and error %d", c, steps, have, e)
				}
				sameWords(t, g, have, all, func(m [][]int) [][]int { return terminated(g, c, m) }, "P20.5: Terminated", c, steps)
			}
			if n*steps <= api.MaxN {
				have, e := conv.TailBiting(c, steps)
				if e != api.OK || have.N != n*steps || !field.Same(have.F, c.F) {
					t.Fatalf("P20.5: TailBiting(%v, %d): have %v and error %d", c, steps, have, e)
				}
				sameWords(t, g, have, all, func(m [][]int) [][]int { return tailBitten(g, c, m) }, "P20.5: TailBiting", c, steps)
			}
		}
	})
}

// units returns the messages of so many steps with one input that is 1, the others being 0.
func units(k, steps int) [][][]int {
	var list [][][]int
	for at := range k * steps {
		message := make([]int, k*steps)
		message[at] = 1
		list = append(list, slices.Collect(slices.Chunk(message, k)))
	}
	return list
}

// TestGreatBlocks compares with the codes that the messages with one nonzero input generate.
func TestGreatBlocks(t *testing.T) {
	encoders(t, 1<<16, api.MaxN, func(r *random, g *field.GF, c api.Conv) {
		before := cloned(c)
		k, n, m := len(c.Gen), len(c.Gen[0]), memory(c)
		most := api.MaxN / n
		for _, steps := range []int{1, 1 + r.below(most), most - m, most} {
			if steps >= 1 && steps+m <= most {
				var rows [][]int
				for _, message := range units(k, steps) {
					rows = append(rows, slices.Concat(terminated(g, c, message)...))
				}
				have, e := conv.Terminated(c, steps)
				sameCode(t, have, e, generated(t, g, n*(steps+m), rows), "P20.5: Terminated", c, steps)
			}
			if steps < 1 {
				continue
			}
			var rows [][]int
			for _, message := range units(k, steps) {
				rows = append(rows, slices.Concat(tailBitten(g, c, message)...))
			}
			have, e := conv.TailBiting(c, steps)
			sameCode(t, have, e, generated(t, g, n*steps, rows), "P20.5: TailBiting", c, steps)
			moved(t, have, n)
		}
		if !same(c, before) {
			t.Errorf("Rules: an argument is changed: %v", before)
		}
	})
}

// moved reports an error unless c has the words whose entries are moved by n positions.
func moved(t *testing.T, c api.Code, n int) {
	t.Helper()
	for _, row := range c.Gen {
		w := slices.Concat(row[c.N-n:], row[:c.N-n])
		if is, e := code.Has(c, w); !is || e != api.OK {
			t.Errorf("P20.7: the word %v moved by %d positions is no word of %v, or error %d", row, n, c, e)
		}
	}
}

func TestErrorsOfBlocks(t *testing.T) {
	of := func(c api.Conv, steps int) (terminated, tailBiting map[string]result) {
		return map[string]result{"Terminated": ofCode(conv.Terminated(c, steps))}, map[string]result{"TailBiting": ofCode(conv.TailBiting(c, steps))}
	}
	encoders(t, 1<<16, api.MaxN, func(r *random, g *field.GF, c api.Conv) {
		n, m := len(c.Gen[0]), memory(c)
		for _, steps := range []int{math.MinInt, math.MinInt + m, -1 << 32, -m, -1, 0} {
			a, b := of(c, steps)
			if steps < 1 {
				failed(t, a, api.ErrRange, "P20.5", c, steps)
				failed(t, b, api.ErrRange, "P20.5", c, steps)
			}
		}
		for steps := 1; steps <= api.MaxN+1; steps++ {
			a, b := conv.Terminated(c, steps)
			if (n*(steps+m) <= api.MaxN) != (b == api.OK) {
				t.Errorf("P20.5: Terminated(%v, %d): %v and error %d", c, steps, a, b)
			}
			x, y := of(c, steps)
			if n*(steps+m) > api.MaxN {
				failed(t, x, api.ErrLength, "P20.5", c, steps)
			}
			if n*steps > api.MaxN {
				failed(t, y, api.ErrLength, "P20.5", c, steps)
			}
		}
		for _, steps := range []int{300, 1 << 32, 1 << 58, 1 << 62, math.MaxInt - m, math.MaxInt} {
			a, b := of(c, steps)
			failed(t, a, api.ErrLength, "P20.5", c, steps)
			failed(t, b, api.ErrLength, "P20.5", c, steps)
		}
	})
}
