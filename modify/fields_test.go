package modify_test

import (
	"slices"
	"testing"

	"codewright/api"
	"codewright/code"
	"codewright/field"
	"codewright/modify"
	"codewright/tower"
)

// pairs calls do for each pair of a field and a field whose order is a power of the order of the first, in which that one is embedded by images.
func pairs(t *testing.T, do func(low, high *field.GF, images []int)) {
	t.Helper()
	for _, high := range fields(t) {
		for _, low := range fields(t) {
			if images, e := tower.Embed(low.Field(), high); e == api.OK {
				do(low, high, images)
			}
		}
	}
}

// mapped returns the word with the images of the entries.
func mapped(images, word []int) []int {
	list := []int{}
	for _, x := range word {
		list = append(list, images[x])
	}
	return list
}

// traced returns the word over the smaller field of degree d whose images are the sums of the conjugates of the entries.
func traced(high *field.GF, images, word []int, d int) []int {
	list := []int{}
	for _, x := range word {
		total := 0
		for range high.Field().M / d {
			total = high.Add(total, x)
			for range d {
				x, _ = high.Pow(x, high.Field().P)
			}
		}
		list = append(list, slices.Index(images, total))
	}
	return list
}

// TestFields compares with all words.
func TestFields(t *testing.T) {
	r := &random{state: 1}
	pairs(t, func(low, high *field.GF, images []int) {
		for n := 1; n <= longest(high, 729); n++ {
			for rows := range n + 1 {
				for range 3 {
					c := r.code(t, high, rows, n)
					kept, list := copied(c), spanned(high, n, c.Gen)
					subfield(t, low, images, c, list)
					trace(t, low, high, images, c, list)
					sameCode(t, c, api.OK, kept, "Rules: an argument")
				}
				lift(t, low, high, images, r.code(t, low, rows, n))
			}
		}
	})
}

// subfield reports an error unless Subfield is right for the code c with the words of list.
func subfield(t *testing.T, low *field.GF, images []int, c api.Code, list [][]int) {
	t.Helper()
	in := map[string]bool{}
	for _, w := range list {
		in[key(w)] = true
	}
	var want [][]int
	for _, w := range words(low, c.N) {
		if in[key(mapped(images, w))] {
			want = append(want, w)
		}
	}
	have, e := modify.Subfield(c, low.Field())
	isCodeOf(t, have, e, low, c.N, want, "P13.4: Subfield", c)
}

// trace reports an error unless Trace is right for the code c with the words of list.
func trace(t *testing.T, low, high *field.GF, images []int, c api.Code, list [][]int) {
	t.Helper()
	var want [][]int
	for _, w := range list {
		want = append(want, traced(high, images, w, low.Field().M))
	}
	have, e := modify.Trace(c, low.Field())
	isCodeOf(t, have, e, low, c.N, want, "P13.4: Trace", c)
}

// lift reports an error unless Lift is right for c.
func lift(t *testing.T, low, high *field.GF, images []int, c api.Code) {
	t.Helper()
	kept := copied(c)
	var rows [][]int
	for _, row := range c.Gen {
		rows = append(rows, mapped(images, row))
	}
	have, e := modify.Lift(c, high.Field())
	isCodeOf(t, have, e, high, c.N, spanned(high, c.N, rows), "P13.5: Lift", c)
	if len(have.Gen) != len(c.Gen) {
		t.Errorf("P13.5: Lift(%v): have dimension %d", c, len(have.Gen))
	}
	sameCode(t, c, api.OK, kept, "Rules: an argument")
}

func TestFieldsOfLargerCodes(t *testing.T) {
	r := &random{state: 2}
	pairs(t, func(low, high *field.GF, images []int) {
		for _, n := range []int{1, 15, 64} {
			for _, rows := range []int{0, 1, n / 2, n - 1, n} {
				c := r.code(t, high, rows, n)
				largerTrace(t, low, high, images, c)
				largerSubfield(t, low, high, images, c)
				largerLift(t, low, high, images, r.code(t, low, rows, n))
			}
		}
	})
}

// largerTrace reports an error unless Trace is right for c: it is compared with the traces of the multiples of the rows by a normal basis.
func largerTrace(t *testing.T, low, high *field.GF, images []int, c api.Code) {
	t.Helper()
	d := low.Field().M
	x, _ := tower.Normal(high, d)
	basis, _ := tower.Conjugates(high, x, d)
	want := api.Code{F: low.Field(), N: c.N}
	for _, x := range basis {
		var rows [][]int
		for _, row := range c.Gen {
			rows = append(rows, traced(high, images, high.Scale(x, row), d))
		}
		want, _ = code.Sum(want, generated(t, low, c.N, rows))
	}
	have, e := modify.Trace(c, low.Field())
	sameCode(t, have, e, want, "P13.4: Trace", c, low.Field())
}

// largerSubfield reports an error unless Subfield is right for c: its words are words of c, and it has the dimension that belongs to the trace code of the dual code.
func largerSubfield(t *testing.T, low, high *field.GF, images []int, c api.Code) {
	t.Helper()
	have, e := modify.Subfield(c, low.Field())
	for _, row := range have.Gen {
		isInside(t, mapped(images, row), c, "P13.4: Subfield", low.Field())
	}
	traces, e2 := modify.Trace(dual(t, c), low.Field())
	if e != api.OK || e2 != api.OK || code.Check(have) != api.OK {
		t.Fatalf("P13.4: Subfield(%v, %v): errors %d and %d", c, low.Field(), e, e2)
	}
	sameCode(t, dual(t, have), e, traces, "P13.6: the dual of a subfield subcode", c, low.Field())
}

// largerLift reports an error unless Lift is right for c.
func largerLift(t *testing.T, low, high *field.GF, images []int, c api.Code) {
	t.Helper()
	want := api.Code{F: high.Field(), N: c.N}
	for _, row := range c.Gen {
		want.Gen = append(want.Gen, mapped(images, row))
	}
	lifted, e := modify.Lift(c, high.Field())
	sameCode(t, lifted, e, want, "P13.5: Lift", c, high.Field())
	have, e := modify.Subfield(lifted, c.F)
	sameCode(t, have, e, c, "P13.6: the subfield subcode of a lifted code", c, high.Field())
	have, e = modify.Trace(lifted, c.F)
	sameCode(t, have, e, c, "P13.6: the trace code of a lifted code", c, high.Field())
	have, e = modify.Lift(dual(t, c), high.Field())
	sameCode(t, have, e, dual(t, lifted), "P13.6: the dual of a lifted code", c, high.Field())
}

func TestErrorsOfFields(t *testing.T) {
	for _, g := range fields(t) {
		c := coded(g, 3, "101")
		for _, f := range noFields {
			failed(t, ofField(c, f), api.ErrField, "P13.4", c, f)
			failed(t, map[string]result{"Lift": of(modify.Lift(c, f))}, api.ErrField, "P13.5", c, f)
		}
		for _, h := range fields(t) {
			f := h.Field()
			if g.Field().P != f.P || g.Field().M%f.M != 0 {
				failed(t, ofField(c, f), api.ErrMatch, "P13.4", c, f)
			}
			if g.Field().P != f.P || f.M%g.Field().M != 0 {
				failed(t, map[string]result{"Lift": of(modify.Lift(c, f))}, api.ErrMatch, "P13.5", c, f)
			}
		}
	}
}
