package modify_test

import (
	"slices"
	"testing"

	"codewright/api"
	"codewright/field"
	"codewright/matrix"
	"codewright/modify"
)

// TestPunctureAndShorten compares with all words.
func TestPunctureAndShorten(t *testing.T) {
	r := &random{state: 1}
	for _, g := range small(t) {
		for n := 1; n <= longest(g, 128); n++ {
			for rows := range n + 1 {
				c := r.code(t, g, rows, n)
				kept, list := copied(c), spanned(g, n, c.Gen)
				for _, set := range subsets(n) {
					if len(set) < n {
						withoutSet(t, g, c, list, set)
					}
				}
				sameCode(t, c, api.OK, kept, "Rules: an argument")
			}
		}
	}
}

// withoutSet reports an error unless Puncture and Shorten are right for the code c with the words of list.
func withoutSet(t *testing.T, g *field.GF, c api.Code, list [][]int, set []int) {
	t.Helper()
	kept := slices.Clone(set)
	var all, zero [][]int
	for _, w := range list {
		all = append(all, without(w, set))
		if !slices.ContainsFunc(set, func(i int) bool { return w[i] != 0 }) {
			zero = append(zero, without(w, set))
		}
	}
	have, e := modify.Puncture(c, set)
	isCodeOf(t, have, e, g, c.N-len(set), all, "P13.1: Puncture", c, set)
	have, e = modify.Shorten(c, set)
	isCodeOf(t, have, e, g, c.N-len(set), zero, "P13.1: Shorten", c, set)
	if !slices.Equal(set, kept) {
		t.Errorf("Rules: an argument is changed: %v", kept)
	}
}

func TestPunctureAndShortenLargerCodes(t *testing.T) {
	r := &random{state: 2}
	for _, g := range fields(t) {
		for _, n := range []int{2, 11, 63, 64} {
			for _, rows := range []int{0, 1, n / 3, n - 1, n} {
				c := r.code(t, g, rows, n)
				for _, sparse := range []int{2, 3, 20, 1000} {
					if set := r.set(n, sparse); len(set) < n {
						withoutLargerSet(t, g, c, set)
					}
				}
				for _, set := range [][]int{nil, {}, {0}, {n - 1}} {
					withoutLargerSet(t, g, c, set)
				}
			}
		}
	}
}

// withoutLargerSet reports an error unless Puncture and Shorten are right for c, by their rows, their dimensions and their dual codes.
func withoutLargerSet(t *testing.T, g *field.GF, c api.Code, set []int) {
	t.Helper()
	var rows [][]int
	for _, row := range c.Gen {
		rows = append(rows, without(row, set))
	}
	punctured, e := modify.Puncture(c, set)
	sameCode(t, punctured, e, generated(t, g, c.N-len(set), rows), "P13.1: Puncture", c, set)
	shortened, e := modify.Shorten(c, set)
	for _, row := range shortened.Gen {
		for _, i := range set {
			row = slices.Insert(slices.Clone(row), i, 0)
		}
		isInside(t, row, c, "P13.1: Shorten", set)
	}
	columns, _ := matrix.Columns(c.F, api.Matrix{Cols: c.N, Rows: c.Gen}, set)
	if rank, _ := matrix.Rank(c.F, columns); e != api.OK || len(shortened.Gen) != len(c.Gen)-rank {
		t.Errorf("P13.1: Shorten(%v, %v): dimension %d and error %d, want %d", c, set, len(shortened.Gen), e, len(c.Gen)-rank)
	}
	have, e := modify.Shorten(dual(t, c), set)
	sameCode(t, have, e, dual(t, punctured), "P13.6: the dual of a punctured code", c, set)
	have, e = modify.Puncture(dual(t, c), set)
	sameCode(t, have, e, dual(t, shortened), "P13.6: the dual of a shortened code", c, set)
}

func TestErrorsOfSets(t *testing.T) {
	for _, g := range fields(t) {
		for _, c := range []api.Code{coded(g, 3), coded(g, 3, "011"), coded(g, 3, "100", "010", "001")} {
			for _, set := range [][]int{{3}, {0, 3}, {0, 1, 2, 3}, {-1}, {-1, 0}, {-1, 0, 1, 2}, {0, 0}, {1, 0}, {0, 2, 1}, {0, 1, 2, 2}, {0, 0, 1, 2}, {2, 1, 0}, make([]int, 300)} {
				failed(t, ofSet(c, set), api.ErrRange, "P13.1", c, set)
			}
			for _, x := range far {
				failed(t, ofSet(c, []int{x}), api.ErrRange, "P13.1", c, x)
				failed(t, ofSet(c, []int{0, x}), api.ErrRange, "P13.1", c, x)
			}
			failed(t, ofSet(c, []int{0, 1, 2}), api.ErrLength, "P13.1", c)
		}
		for _, n := range []int{1, 64} {
			for _, c := range []api.Code{{F: g.Field(), N: n}, generated(t, g, n, [][]int{slices.Repeat([]int{1}, n)})} {
				var set []int
				for i := range n {
					set = append(set, i)
				}
				failed(t, ofSet(c, set), api.ErrLength, "P13.1", n)
				failed(t, ofSet(c, append(set, n)), api.ErrRange, "P13.1", n)
				if n > 1 {
					want := generated(t, g, 1, [][]int{{len(c.Gen)}})
					have, e := modify.Puncture(c, set[1:])
					sameCode(t, have, e, want, "P13.1: Puncture", c)
					have, e = modify.Shorten(c, set[1:])
					sameCode(t, have, e, coded(g, 1), "P13.1: Shorten", c)
				}
			}
		}
	}
}

// TestSubcode compares with the words that the rows generate.
func TestSubcode(t *testing.T) {
	r := &random{state: 3}
	for _, g := range small(t) {
		for n := 1; n <= longest(g, 729); n++ {
			for rows := range n + 1 {
				c := r.code(t, g, rows, n)
				kept := copied(c)
				for _, set := range subsets(len(c.Gen)) {
					keptSet := slices.Clone(set)
					var chosen [][]int
					for _, i := range set {
						chosen = append(chosen, c.Gen[i])
					}
					have, e := modify.Subcode(c, set)
					isCodeOf(t, have, e, g, n, spanned(g, n, chosen), "P13.3: Subcode", c, set)
					if !sameLists(have.Gen, chosen) || !slices.Equal(set, keptSet) {
						t.Errorf("P13.3: Subcode(%v, %v): have %v", c, set, have)
					}
				}
				sameCode(t, c, api.OK, kept, "Rules: an argument")
			}
		}
	}
}

func TestSubcodeOfLargerCodes(t *testing.T) {
	r := &random{state: 4}
	for _, g := range fields(t) {
		for _, n := range []int{1, 12, 64} {
			for _, rows := range []int{0, 1, n / 2, n} {
				c := r.code(t, g, rows, n)
				for _, set := range [][]int{nil, r.set(len(c.Gen), 2), r.set(len(c.Gen), 1)} {
					want := api.Code{F: c.F, N: n}
					for _, i := range set {
						want.Gen = append(want.Gen, c.Gen[i])
					}
					have, e := modify.Subcode(c, set)
					sameCode(t, have, e, want, "P13.3: Subcode", c, set)
				}
			}
		}
	}
}

func TestErrorsOfSubcode(t *testing.T) {
	for _, g := range fields(t) {
		for k, c := range []api.Code{coded(g, 3), coded(g, 3, "011"), coded(g, 3, "101", "011"), coded(g, 3, "100", "010", "001")} {
			bad := [][]int{{k}, {0, k}, {-1}, {0, 0}, {1, 0}, {0, 1, 1}, {0, 2, 1}, make([]int, 300)}
			for _, x := range far {
				bad = append(bad, []int{x}, []int{0, x})
			}
			for _, rows := range bad {
				failed(t, map[string]result{"Subcode": of(modify.Subcode(c, rows))}, api.ErrRange, "P13.3", c, rows)
			}
		}
	}
}

// TestPermute compares with all words.
func TestPermute(t *testing.T) {
	r := &random{state: 5}
	for _, g := range small(t) {
		for n := 1; n <= min(5, longest(g, 729)); n++ {
			for rows := range n + 1 {
				c := r.code(t, g, rows, n)
				kept, list := copied(c), spanned(g, n, c.Gen)
				for _, perm := range permutations(n) {
					keptPerm := slices.Clone(perm)
					have, e := modify.Permute(c, perm)
					isCodeOf(t, have, e, g, n, permuted(list, perm), "P13.3: Permute", c, perm)
					if !slices.Equal(perm, keptPerm) {
						t.Errorf("Rules: an argument is changed: %v", keptPerm)
					}
				}
				sameCode(t, c, api.OK, kept, "Rules: an argument")
			}
		}
	}
}

// permuted returns the words that have at position perm[i] the entry i of a word of the list.
func permuted(list [][]int, perm []int) [][]int {
	var out [][]int
	for _, w := range list {
		v := make([]int, len(w))
		for i, x := range w {
			v[perm[i]] = x
		}
		out = append(out, v)
	}
	return out
}

func TestPermuteLargerCodes(t *testing.T) {
	r := &random{state: 6}
	for _, g := range fields(t) {
		for _, n := range []int{1, 12, 64} {
			for _, rows := range []int{0, 1, n / 2, n} {
				c, perm := r.code(t, g, rows, n), r.perm(n)
				have, e := modify.Permute(c, perm)
				sameCode(t, have, e, generated(t, g, n, permuted(c.Gen, perm)), "P13.3: Permute", c, perm)
				back := make([]int, n)
				for i, p := range perm {
					back[p] = i
				}
				have, e = modify.Permute(have, back)
				sameCode(t, have, e, c, "P13.3: Permute there and back", c, perm)
			}
		}
	}
}

func TestErrorsOfPermute(t *testing.T) {
	for _, g := range fields(t) {
		for _, c := range []api.Code{coded(g, 3), coded(g, 3, "011"), coded(g, 3, "100", "010", "001")} {
			bad := [][]int{nil, {}, {0, 1}, {0, 1, 2, 3}, {0, 1, 2, 2}, {0, 1, 1}, {0, 0, 0}, {1, 2, 3}, {-1, 0, 1}, {0, 1, 3}, make([]int, 300)}
			for _, x := range far {
				bad = append(bad, []int{x, 1, 2}, []int{1, 2, x})
			}
			for _, perm := range bad {
				failed(t, map[string]result{"Permute": of(modify.Permute(c, perm))}, api.ErrRange, "P13.3", c, perm)
			}
		}
	}
}

// TestErrorsOfCodes gives all functions the data of no code, and other arguments with errors of their own.
func TestErrorsOfCodes(t *testing.T) {
	for _, g := range fields(t) {
		for want, c := range badCodes(g) {
			for _, list := range [][]int{nil, {-1}, {0, 1, 2}, {5, 4}} {
				for _, f := range []api.Field{g.Field(), {}, {P: 11, M: 1}} {
					failed(t, ofAll(c, list, f), want, "Functions", c, list, f)
				}
			}
		}
	}
	for _, f := range noFields {
		failed(t, ofAll(api.Code{F: f, N: 3}, nil, f), api.ErrField, "Functions", f)
	}
	two := standard(t, 2)
	for _, n := range append(far[:2:2], 0, 65, far[4]) {
		failed(t, ofAll(api.Code{F: two.Field(), N: n}, nil, two.Field()), api.ErrLength, "Functions", n)
	}
}

func TestExamples(t *testing.T) {
	g := standard(t, 2)
	c := generated(t, g, 4, digits("0111", "1010"))
	have, e := modify.Puncture(c, []int{0})
	sameCode(t, have, e, coded(g, 3, "101", "010"), "Examples: Puncture")
	have, e = modify.Shorten(c, []int{0})
	sameCode(t, have, e, coded(g, 3, "111"), "Examples: Shorten")
	have, e = modify.Extend(c)
	sameCode(t, have, e, coded(g, 5, "10100", "01111"), "Examples: Extend")
	have, e = modify.Expurgate(c)
	sameCode(t, have, e, coded(g, 4, "1010"), "Examples: Expurgate")
	have, e = modify.Permute(c, []int{1, 0, 2, 3})
	sameCode(t, have, e, coded(g, 4, "1011", "0110"), "Examples: Permute")
	d := coded(standard(t, 4), 3, "123")
	have, e = modify.Subfield(d, g.Field())
	sameCode(t, have, e, coded(g, 3), "Examples: Subfield")
	have, e = modify.Trace(d, g.Field())
	sameCode(t, have, e, coded(g, 3, "101", "011"), "Examples: Trace")
}

// disjoint reports an error unless a change of one of the lists changes none of the others.
func disjoint(t *testing.T, name string, lists ...[]int) {
	t.Helper()
	var kept [][]int
	for i, l := range lists {
		for j := range l {
			l[j] = i + j
		}
		kept = append(kept, slices.Clone(l))
	}
	if !sameLists(lists, kept) {
		t.Errorf("Rules: %s: two lists share memory", name)
	}
}

func TestResultsAreNewMemory(t *testing.T) {
	g := standard(t, 9)
	for name, build := range map[string]func(c api.Code, list []int, f api.Field) (api.Code, api.Errno){
		"Puncture":  func(c api.Code, l []int, _ api.Field) (api.Code, api.Errno) { return modify.Puncture(c, l[:1]) },
		"Puncture0": func(c api.Code, _ []int, _ api.Field) (api.Code, api.Errno) { return modify.Puncture(c, nil) },
		"Shorten":   func(c api.Code, l []int, _ api.Field) (api.Code, api.Errno) { return modify.Shorten(c, l[:1]) },
		"Shorten0":  func(c api.Code, _ []int, _ api.Field) (api.Code, api.Errno) { return modify.Shorten(c, nil) },
		"Extend":    func(c api.Code, _ []int, _ api.Field) (api.Code, api.Errno) { return modify.Extend(c) },
		"Expurgate": func(c api.Code, _ []int, _ api.Field) (api.Code, api.Errno) { return modify.Expurgate(c) },
		"Augment":   func(c api.Code, _ []int, _ api.Field) (api.Code, api.Errno) { return modify.Augment(c) },
		"Subcode":   func(c api.Code, l []int, _ api.Field) (api.Code, api.Errno) { return modify.Subcode(c, l[:2]) },
		"Permute":   func(c api.Code, l []int, _ api.Field) (api.Code, api.Errno) { return modify.Permute(c, l) },
		"Subfield":  func(c api.Code, _ []int, f api.Field) (api.Code, api.Errno) { return modify.Subfield(c, f) },
		"Trace":     func(c api.Code, _ []int, f api.Field) (api.Code, api.Errno) { return modify.Trace(c, f) },
		"Lift":      func(c api.Code, _ []int, f api.Field) (api.Code, api.Errno) { return modify.Lift(c, f) },
	} {
		c, list, f := coded(g, 4, "1002", "0112"), []int{0, 1, 2, 3}, g.Field()
		have, e := build(c, list, f)
		if e != api.OK || len(have.Gen) == 0 {
			t.Fatal(name, have, e)
		}
		disjoint(t, name, slices.Concat(c.Gen, have.Gen, [][]int{c.F.Mod, have.F.Mod, f.Mod, list})...)
	}
}
