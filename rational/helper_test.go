package rational_test

import (
	"math/big"
	"slices"
	"testing"

	"codewright/api"
)

// mark lies in the memory behind each list of limbs; a call must not write there.
const mark = 0xabcdef01

// limbs returns n with zeros limbs 0 at its end, and with marks behind its end.
func limbs(n *big.Int, zeros int) api.Nat {
	var list api.Nat
	low := big.NewInt(1<<32 - 1)
	for rest := new(big.Int).Set(n); rest.Sign() > 0; rest.Rsh(rest, 32) {
		list = append(list, uint32(new(big.Int).And(rest, low).Uint64()))
	}
	end := len(list) + zeros
	list = append(list, make(api.Nat, zeros)...)
	return append(list, mark, mark, mark)[:end]
}

// integer returns the value of a.
func integer(a api.Nat) *big.Int {
	n := new(big.Int)
	for i := len(a) - 1; i >= 0; i-- {
		n.Or(n.Lsh(n, 32), big.NewInt(int64(a[i])))
	}
	return n
}

// value returns the value of a: 0 if its denominator is 0.
func value(a api.Rat) *big.Rat {
	den := integer(a.Den)
	if den.Sign() == 0 {
		return new(big.Rat)
	}
	x := new(big.Rat).SetFrac(integer(a.Num), den)
	if a.Neg {
		x.Neg(x)
	}
	return x
}

// fraction returns the value of a text like 3, -3 or -3/2.
func fraction(s string) *big.Rat {
	x, ok := new(big.Rat).SetString(s)
	if !ok {
		panic("no fraction: " + s)
	}
	return x
}

// written returns a Rat with the value x; numerator and denominator are multiplied by factor and have zeros limbs 0 at their ends.
func written(x *big.Rat, factor *big.Int, zeros int) api.Rat {
	num := new(big.Int).Abs(x.Num())
	return api.Rat{Neg: x.Sign() < 0, Num: limbs(num.Mul(num, factor), zeros), Den: limbs(new(big.Int).Mul(x.Denom(), factor), zeros)}
}

// canonical returns the canonical Rat with the value x.
func canonical(x *big.Rat) api.Rat { return written(x, big.NewInt(1), 0) }

// of returns the canonical Rat with the text s.
func of(s string) api.Rat { return canonical(fraction(s)) }

// forms returns Rats with the value x, the canonical one first.
func forms(x *big.Rat) []api.Rat {
	wide := new(big.Int).Lsh(big.NewInt(15), 64)
	list := []api.Rat{canonical(x), written(x, big.NewInt(1), 2), written(x, big.NewInt(6), 0), written(x, wide, 1)}
	if x.Sign() != 0 {
		return list
	}
	return append(list, zeros()...)
}

// zeros returns Rats with the value 0, none of them canonical.
func zeros() []api.Rat {
	return []api.Rat{
		{}, {Neg: true}, {Neg: true, Den: api.Nat{1}}, {Num: api.Nat{}, Den: api.Nat{}}, {Num: api.Nat{0}, Den: api.Nat{1}}, {Num: api.Nat{0, 0}, Den: api.Nat{0}},
		{Num: api.Nat{5}}, {Neg: true, Num: api.Nat{5}}, {Neg: true, Num: api.Nat{5, 7}, Den: api.Nat{0, 0}}, {Den: api.Nat{3}}, {Den: api.Nat{1, 0}}, {Neg: true, Num: api.Nat{0}, Den: api.Nat{9, 1}},
	}
}

// isCanonical reports whether a is canonical.
func isCanonical(a api.Rat) bool {
	for _, n := range []api.Nat{a.Num, a.Den} {
		if len(n) > 0 && n[len(n)-1] == 0 {
			return false
		}
	}
	common := new(big.Int).GCD(nil, nil, integer(a.Num), integer(a.Den))
	return len(a.Den) > 0 && common.Cmp(big.NewInt(1)) == 0 && !(a.Neg && len(a.Num) == 0)
}

// same reports an error unless have is the canonical Rat with the value want.
func same(t *testing.T, what string, have api.Rat, want *big.Rat) {
	t.Helper()
	if !isCanonical(have) {
		t.Errorf("%s: not canonical: %v", what, have)
	}
	if value(have).Cmp(want) != 0 {
		t.Errorf("%s: have %v, want %v", what, value(have), want)
	}
}

// right reports an error unless e is OK and have is the canonical Rat with the value want.
func right(t *testing.T, what string, have api.Rat, e api.Errno, want *big.Rat) {
	t.Helper()
	if e != api.OK {
		t.Errorf("%s: error %d", what, e)
		return
	}
	same(t, what, have, want)
}

// refused reports an error unless e is want and have is the zero value.
func refused(t *testing.T, what string, have api.Rat, e, want api.Errno) {
	t.Helper()
	if e != want || have.Neg || len(have.Num) != 0 || len(have.Den) != 0 {
		t.Errorf("%s: have error %d with %v, want error %d", what, e, have, want)
	}
}

// random is a generator of numbers that are the same in each run.
type random struct{ state uint64 }

func (r *random) next() uint32 {
	r.state = r.state*6364136223846793005 + 1442695040888963407
	return uint32(r.state >> 32)
}

func (r *random) below(n int) int { return int(r.next() % uint32(n)) }

// positive returns a number of at least 1 and at most n limbs.
func (r *random) positive(n int) *big.Int {
	x := big.NewInt(1)
	for range 1 + r.below(n) {
		x.Add(x.Lsh(x, 32), big.NewInt(int64(r.next())))
	}
	return x.Add(x.Rsh(x, uint(r.below(60))), big.NewInt(1))
}

// fraction returns a fraction with at most n limbs above and below.
func (r *random) fraction(n int) *big.Rat {
	x := new(big.Rat).SetFrac(r.positive(n), r.positive(n))
	switch r.below(7) {
	case 0:
		return new(big.Rat)
	case 1, 2, 3:
		return x.Neg(x)
	}
	return x
}

// samples returns fractions of all kinds.
func samples() []*big.Rat {
	var list []*big.Rat
	for _, s := range []string{
		"0", "1", "-1", "2", "-2", "1/2", "-1/2", "3/2", "-3/2", "1/3", "-1/3", "2/3", "5/6", "-7/10", "4294967295", "4294967296/3", "-4294967297/4294967296",
		"9223372036854775807", "-9223372036854775808", "18446744073709551616/5", "-5/18446744073709551616", "340282366920938463463374607431768211457/340282366920938463463374607431768211455",
	} {
		list = append(list, fraction(s))
	}
	r := &random{state: 13}
	for range 8 {
		list = append(list, r.fraction(4))
	}
	return list
}

// kept calls f with Rats that are not canonical, and reports an error if it changes one of them or what lies behind it, or if a result shares memory with an argument or within itself.
func kept(t *testing.T, what string, f func(args []api.Rat) []api.Nat, values ...*big.Rat) {
	t.Helper()
	var args []api.Rat
	for i, x := range values {
		args = append(args, written(x, big.NewInt(int64(1+i)), i%2))
	}
	before := memory(args)
	results := f(args)
	var first []api.Nat
	for _, result := range results {
		first = append(first, slices.Clone(result))
	}
	for i := range results {
		if !slices.Equal(results[i], first[i]) {
			t.Errorf("%s: result %d shares memory with another result", what, i)
		}
		for j := range results[i] {
			results[i][j] ^= 0x55555555
		}
	}
	if !slices.Equal(memory(args), before) {
		t.Errorf("%s: an argument is changed, or shares memory with a result", what)
	}
	for i, result := range f(args) {
		if !slices.Equal(result, first[i]) {
			t.Errorf("%s: result %d of the second call differs", what, i)
		}
	}
}

// memory returns all that lies in the memory of args.
func memory(args []api.Rat) []uint32 {
	var list []uint32
	for _, a := range args {
		sign := uint32(0)
		if a.Neg {
			sign = 1
		}
		list = append(list, sign, uint32(len(a.Num)), uint32(len(a.Den)))
		list = append(list, a.Num[:cap(a.Num)]...)
		list = append(list, a.Den[:cap(a.Den)]...)
	}
	return list
}
