package classic_test

import (
	"math"
	"testing"

	"codewright/api"
	"codewright/classic"
	"codewright/code"
)

// residueWord returns the word e of P15.6.
func residueWord(n int) []int {
	word := make([]int, n)
	for i := 1; i < n; i++ {
		word[i*i%n] = 1
	}
	if n%8 == 1 {
		word[0] = 1
	}
	return word
}

func TestResidue(t *testing.T) {
	g := standard(t, 2)
	for _, n := range []int{7, 17, 23, 31, 41, 47} {
		word := residueWord(n)
		var rows [][]int
		for w := word; len(rows) < n; w = rotated(w) {
			rows = append(rows, w)
		}
		c, e := classic.Residue(n)
		sameCode(t, c, e, generated(t, g, n, rows), "P15.6: Residue", n)
		if len(c.Gen) != (n+1)/2 {
			t.Errorf("P15.7: Residue(%d) has the dimension %d", n, len(c.Gen))
		}
		closed(t, c, func(i int) int { return (i + 1) % n }, "P15.7: the shifts", n)
		for a := 1; a < n; a++ {
			closed(t, c, func(i int) int { return a * a * i % n }, "P15.7: the products", n, a)
		}
		if n > 31 {
			continue
		}
		for w, count := range weights(c) {
			if w%2 == 1 && count > 0 && (w*w < n || n%8 == 7 && w*w-w+1 < n) {
				t.Errorf("P15.7: Residue(%d) has a word of weight %d", n, w)
			}
		}
	}
}

func TestWordsOfResidue(t *testing.T) {
	for n, texts := range map[int]string{7: "0110100", 17: "11101000110001011", 23: "01111010110011001010000"} {
		c, e := classic.Residue(n)
		if e != api.OK {
			t.Fatal(n, e)
		}
		has(t, c, digits(texts)[0], "P15.6: Residue", n)
	}
	for n, want := range map[int]int{7: 3, 17: 5, 23: 7, 31: 7} {
		c, e := classic.Residue(n)
		if have := distance(c); e != api.OK || have != want {
			t.Errorf("P15.6: the distance of Residue(%d): %d and error %d, want %d", n, have, e, want)
		}
	}
}

func TestErrorsOfResidue(t *testing.T) {
	good := map[int]bool{7: true, 17: true, 23: true, 31: true, 41: true, 47: true}
	list := []int{math.MinInt, math.MinInt + 1, math.MaxInt, 1 << 31, 1<<31 - 1, 1<<32 + 7, 1<<32 + 17}
	for n := -100; n <= 300; n++ {
		list = append(list, n)
	}
	for _, n := range list {
		if !good[n] {
			failed(t, map[string]result{"Residue": ofCode(classic.Residue(n))}, api.ErrRange, "P15.6", n)
		}
	}
}

func TestGolay(t *testing.T) {
	two, three := standard(t, 2), standard(t, 3)
	c, e := classic.Golay(2)
	want, _ := classic.Residue(23)
	sameCode(t, c, e, want, "P15.8: Golay", 2)
	if len(c.Gen) != 12 {
		t.Errorf("P15.8: Golay(2) has the dimension %d", len(c.Gen))
	}
	perfect(t, two, c, e, 3, "P15.8: Golay", 2)
	c, e = classic.Golay(3)
	var rows [][]int
	for w := digits("20121100000")[0]; len(rows) < 11; w = rotated(w) {
		rows = append(rows, w)
	}
	sameCode(t, c, e, generated(t, three, 11, rows), "P15.8: Golay", 3)
	if len(c.Gen) != 6 {
		t.Errorf("P15.8: Golay(3) has the dimension %d", len(c.Gen))
	}
	perfect(t, three, c, e, 2, "P15.8: Golay", 3)
}

func TestErrorsOfGolay(t *testing.T) {
	for _, q := range []int{math.MinInt, -3, -2, -1, 0, 1, 4, 5, 7, 8, 9, 11, 23, 256, 257, 1<<32 + 2, math.MaxInt} {
		failed(t, map[string]result{"Golay": ofCode(classic.Golay(q))}, api.ErrRange, "P15.8", q)
	}
}

// TestNewMemory changes what the functions return.
func TestNewMemory(t *testing.T) {
	for name, build := range map[string]func() (api.Code, api.Errno){
		"Repetition": func() (api.Code, api.Errno) { return classic.Repetition(api.Field{P: 3, M: 1}, 4) },
		"Hamming":    func() (api.Code, api.Errno) { return classic.Hamming(api.Field{P: 3, M: 1}, 2) },
		"ReedMuller": func() (api.Code, api.Errno) { return classic.ReedMuller(1, 3) },
		"Residue":    func() (api.Code, api.Errno) { return classic.Residue(7) },
		"Golay":      func() (api.Code, api.Errno) { return classic.Golay(3) },
	} {
		first, _ := build()
		matrix, _ := code.Matrix(first)
		for _, row := range first.Gen {
			row[0] = -1
		}
		again, e := build()
		first.Gen = matrix.Rows
		sameCode(t, again, e, first, "Rules: new memory", name)
	}
	mod := []int{1, 1}
	for name, result := range ofLength(api.Field{P: 2, M: 2, Mod: mod}, 3) {
		mod[0] = 0
		if code.Check(result.c) != api.OK {
			t.Errorf("Rules: %s keeps its argument", name)
		}
		mod[0] = 1
	}
}
