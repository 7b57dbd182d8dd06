package cyclic_test

import (
	"math"
	"slices"
	"testing"

	"codewright/api"
	"codewright/cyclic"
	"codewright/field"
)

// first returns the first rows of circulants of size m: rows many rows of blocks many.
func (r *random) first(g *field.GF, rows, blocks, m int) [][][]int {
	list := make([][][]int, rows)
	sparse := 1 + r.below(3)
	for i := range list {
		for range blocks {
			list[i] = append(list[i], r.list(g, m, sparse))
		}
	}
	return list
}

// circulants returns all rows of the circulants.
func circulants(m int, first [][][]int) [][]int {
	var rows [][]int
	for _, row := range first {
		w := slices.Concat(row...)
		for range m {
			rows = append(rows, w)
			w = moved(w, m)
		}
	}
	return rows
}

// TestQuasi compares with all combinations of the shifts.
func TestQuasi(t *testing.T) {
	r := &random{state: 1}
	for _, g := range small(t) {
		for m := 1; m <= longest(g, 729); m++ {
			for blocks := 1; m*blocks <= longest(g, 729); blocks++ {
				for rows := 1; rows <= 3; rows++ {
					first := r.first(g, rows, blocks, m)
					have, e := cyclic.Quasi(g.Field(), m, first)
					want, _ := spanned(g, m*blocks, circulants(m, first))
					set, list := spanned(g, m*blocks, have.Gen)
					if e != api.OK || have.N != m*blocks || !field.Same(have.F, g.Field()) || len(set) != len(want) || len(set) != len(list) {
						t.Fatalf("P16.7: Quasi(%v, %d, %v): have %v and error %d", g.Field(), m, first, have, e)
					}
					for _, w := range list {
						if !want[key(w)] {
							t.Fatalf("P16.7: Quasi(%v, %d, %v): %v is no word", g.Field(), m, first, w)
						}
					}
					if !isClosed(set, list, m) {
						t.Errorf("P16.7: Quasi(%v, %d, %v) is not closed", g.Field(), m, first)
					}
				}
			}
		}
	}
}

func TestQuasiOfGreatLengths(t *testing.T) {
	r := &random{state: 2}
	for _, g := range fields(t) {
		for _, x := range [][2]int{{1, 1}, {1, 64}, {64, 1}, {8, 8}, {32, 2}, {2, 32}, {3, 21}, {21, 3}, {7, 4}, {63, 1}, {5, 2}} {
			m, blocks := x[0], x[1]
			for rows := 1; rows*m <= api.MaxRows && rows <= 4; rows++ {
				first := r.first(g, rows, blocks, m)
				kept := slices.Clone(circulants(m, first))
				have, e := cyclic.Quasi(g.Field(), m, first)
				sameCode(t, have, e, generated(t, g, m*blocks, kept), "P16.7: Quasi", m, blocks, rows)
				is, e := cyclic.IsQuasi(have, m)
				sameBool(t, is, e, true, "P16.8: IsQuasi", m, blocks, rows)
				if !sameLists(circulants(m, first), kept) {
					t.Errorf("Rules: Quasi changes its argument")
				}
			}
		}
	}
}

// TestQuasiOfManyRows has more rows than a matrix may have, of which the last ones count.
func TestQuasiOfManyRows(t *testing.T) {
	for _, g := range []*field.GF{standard(t, 2), standard(t, 9)} {
		for _, x := range [][2]int{{1, 5}, {1, 64}, {64, 1}, {8, 8}, {5, 3}, {63, 1}} {
			m, blocks := x[0], x[1]
			for _, count := range []int{1, 3, 4, 192, 193, 257, 400} {
				first := make([][][]int, count)
				for i := range first {
					for range blocks {
						first[i] = append(first[i], make([]int, m))
					}
				}
				have, e := cyclic.Quasi(g.Field(), m, first)
				sameCode(t, have, e, api.Code{F: g.Field(), N: m * blocks}, "P16.7: Quasi", m, blocks, count)
				want := api.Code{F: g.Field(), N: m * blocks}
				for at := range m {
					row := make([]int, m*blocks)
					row[at] = 1
					want.Gen = append(want.Gen, row)
				}
				for _, i := range []int{0, count / 2, count - 1} {
					first[i][0][m/2] = 1
					have, e = cyclic.Quasi(g.Field(), m, first)
					sameCode(t, have, e, want, "P16.7: Quasi", m, blocks, count, i)
					first[i][0][m/2] = 0
				}
				for i := range first {
					first[i][i%blocks][i%m] = 1
				}
				if count >= blocks {
					have, e = cyclic.Quasi(g.Field(), m, first)
					sameCode(t, have, e, units(g, m*blocks), "P16.7: Quasi", m, blocks, count)
				}
			}
		}
	}
}

// units returns the code of all words of length n.
func units(g *field.GF, n int) api.Code {
	c := api.Code{F: g.Field(), N: n}
	for i := range n {
		row := make([]int, n)
		row[i] = 1
		c.Gen = append(c.Gen, row)
	}
	return c
}

func TestErrorsOfQuasi(t *testing.T) {
	of := func(f api.Field, m int, first [][][]int) map[string]result {
		return map[string]result{"Quasi": ofCode(cyclic.Quasi(f, m, first))}
	}
	for _, f := range noFields {
		for _, m := range []int{-1, 0, 1} {
			failed(t, of(f, m, nil), api.ErrField, "P16.7", f, m)
			failed(t, of(f, m, [][][]int{{{9, 9}}, {}}), api.ErrField, "P16.7", f, m)
		}
	}
	for _, g := range fields(t) {
		f, bad := g.Field(), g.Order()
		for _, m := range []int{0, -1, -2, math.MinInt} {
			failed(t, of(f, m, nil), api.ErrRange, "P16.7", f, m)
			failed(t, of(f, m, [][][]int{{{1}}, {{-1}, {1}}}), api.ErrRange, "P16.7", f, m)
			failed(t, of(f, m, [][][]int{{{}}}), api.ErrRange, "P16.7", f, m)
		}
		for _, m := range []int{1, 2, 65, math.MaxInt} {
			failed(t, of(f, m, nil), api.ErrShape, "P16.7", f, m)
			failed(t, of(f, m, [][][]int{}), api.ErrShape, "P16.7", f, m)
		}
		for _, first := range [][][][]int{
			{{{1, 0}}, {{1, 0}, {0, 1}}},
			{{{1, 0}, {0, 1}}, {{1, 0}}},
			{{{1, 0}}, {}},
			{{}, {{1, 0}}},
			{{{1, 0}, {1}}},
			{{{1, 0}, {1, 0, 0}}},
			{{{1, 0}, nil}},
			{{{1, 0}, {1, bad}}, {{1, 0}, {1, 0, bad}}},
			{{{bad, bad}}, {{1, 0}}, {{}}},
		} {
			failed(t, of(f, 2, first), api.ErrShape, "P16.7", f, first)
		}
		for _, m := range []int{3, 4, 64, 1 << 32, 1 << 62, math.MaxInt} {
			failed(t, of(f, m, [][][]int{{{1, bad}, {0, 1}}}), api.ErrShape, "P16.7", f, m)
			failed(t, of(f, m, [][][]int{{}}), api.ErrLength, "P16.7", f, m)
			failed(t, of(f, m, [][][]int{nil, {}}), api.ErrLength, "P16.7", f, m)
		}
		long := make([][]int, 33)
		for i := range long {
			long[i] = []int{1, -1}
		}
		failed(t, of(f, 2, [][][]int{long, long}), api.ErrLength, "P16.7", f, "66 columns")
		failed(t, of(f, 65, [][][]int{{append(make([]int, 64), bad)}}), api.ErrLength, "P16.7", f, "65 columns")
		failed(t, of(f, 2, [][][]int{long[:32]}), api.ErrElement, "P16.7", f, "64 columns")
		for _, x := range []int{-1, bad, bad + 1, 1 << 32, math.MaxInt, math.MinInt} {
			failed(t, of(f, 2, [][][]int{{{x, 0}}}), api.ErrElement, "P16.7", f, x)
			failed(t, of(f, 2, [][][]int{{{1, 0}, {0, 0}}, {{0, 1}, {1, x}}}), api.ErrElement, "P16.7", f, x)
		}
	}
}

// TestIsQuasi compares with all words of small codes.
func TestIsQuasi(t *testing.T) {
	r := &random{state: 3}
	for _, g := range small(t) {
		for n := 1; n <= longest(g, 729); n++ {
			for i := range 40 {
				c := r.code(t, g, r.below(n+1), n)
				for m := 1; m <= n; m++ {
					if n%m != 0 {
						continue
					}
					if i%2 == 0 {
						c, _ = cyclic.Quasi(g.Field(), m, r.first(g, 1+r.below(2), n/m, m))
					}
					kept := copied(c)
					set, list := spanned(g, n, c.Gen)
					for d := 1; d <= n; d++ {
						if n%d == 0 {
							have, e := cyclic.IsQuasi(c, d)
							sameBool(t, have, e, isClosed(set, list, d), "P16.8: IsQuasi", c, d)
						}
					}
					sameCode(t, c, api.OK, kept, "Rules: an argument")
				}
			}
		}
	}
}

func TestIsQuasiOfGreatLengths(t *testing.T) {
	r := &random{state: 4}
	for _, g := range fields(t) {
		for _, n := range []int{12, 60, 64} {
			for m := 2; m <= n; m++ {
				if n%m != 0 {
					continue
				}
				c, _ := cyclic.Quasi(g.Field(), m, r.first(g, 1, n/m, m))
				for d := 1; d <= n; d++ {
					if n%d != 0 {
						continue
					}
					var rows [][]int
					for _, w := range c.Gen {
						rows = append(rows, moved(w, d))
					}
					have, e := cyclic.IsQuasi(c, d)
					sameBool(t, have, e, equal(generated(t, g, n, rows), c), "P16.8: IsQuasi", c, d)
				}
			}
		}
	}
}

func TestErrorsOfIsQuasi(t *testing.T) {
	for _, g := range fields(t) {
		for _, n := range []int{1, 2, 7, 12, 64} {
			for _, c := range []api.Code{units(g, n), {F: g.Field(), N: n}} {
				for _, m := range []int{math.MinInt, -n, -1, 0, n + 1, 2 * n, 5, 11, 65, math.MaxInt} {
					failed(t, map[string]result{"IsQuasi": ofBool(cyclic.IsQuasi(c, m))}, api.ErrRange, "P16.8", c.F, n, m)
				}
			}
		}
	}
}
