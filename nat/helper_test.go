package nat_test

import (
	"math/big"
	"slices"
	"testing"

	"codewright/api"
)

// mark lies in the memory behind each argument; a call must not write there.
const mark = 0xabcdef01

// loose returns n with zeros limbs 0 at its end, and with marks behind its end.
func loose(n *big.Int, zeros int) api.Nat {
	var limbs api.Nat
	low := big.NewInt(1<<32 - 1)
	for rest := new(big.Int).Set(n); rest.Sign() > 0; rest.Rsh(rest, 32) {
		limbs = append(limbs, uint32(new(big.Int).And(rest, low).Uint64()))
	}
	end := len(limbs) + zeros
	whole := append(limbs, make(api.Nat, zeros)...)
	whole = append(whole, mark, mark, mark, mark)
	return whole[:end]
}

// value returns the value of a as a big.Int.
func value(a api.Nat) *big.Int {
	n := new(big.Int)
	for i := len(a) - 1; i >= 0; i-- {
		n.Lsh(n, 32)
		n.Or(n, new(big.Int).SetUint64(uint64(a[i])))
	}
	return n
}

// number returns the big.Int with the decimal digits s.
func number(s string) *big.Int {
	n, ok := new(big.Int).SetString(s, 10)
	if !ok {
		panic("no number: " + s)
	}
	return n
}

// power returns 2^n + add.
func power(n uint, add int64) *big.Int {
	return new(big.Int).Add(new(big.Int).Lsh(big.NewInt(1), n), big.NewInt(add))
}

// same reports an error unless have is the canonical Nat with the value want.
func same(t *testing.T, what string, have api.Nat, want *big.Int) {
	t.Helper()
	if len(have) > 0 && have[len(have)-1] == 0 {
		t.Errorf("%s: not canonical: %v", what, have)
	}
	if value(have).Cmp(want) != 0 {
		t.Errorf("%s: have %v, want %v", what, have, want)
	}
}

// refused reports an error unless e is want and there is no value.
func refused(t *testing.T, what string, have api.Nat, e, want api.Errno) {
	t.Helper()
	if e != want || len(have) != 0 {
		t.Errorf("%s: have %d limbs and error %d, want none and error %d", what, len(have), e, want)
	}
}

// random is a generator of numbers that are the same in each run.
type random struct{ state uint64 }

func (r *random) next() uint32 {
	r.state = r.state*6364136223846793005 + 1442695040888963407
	return uint32(r.state >> 32)
}

func (r *random) below(n int) int { return int(r.next() % uint32(n)) }

// limb returns a limb that is often one of those at which carries begin or end.
func (r *random) limb() uint32 {
	edges := []uint32{0, 1, 2, 1<<31 - 1, 1 << 31, 1<<32 - 2, 1<<32 - 1}
	if i := r.below(2 * len(edges)); i < len(edges) {
		return edges[i]
	}
	return r.next()
}

// number returns a number of at most n limbs.
func (r *random) number(n int) *big.Int {
	limbs := make(api.Nat, n)
	for i := range limbs {
		limbs[i] = r.limb()
	}
	return value(limbs)
}

// samples returns numbers at the borders of limbs, and others.
func samples() []*big.Int {
	list := []*big.Int{big.NewInt(0)}
	for _, n := range []uint{0, 1, 4, 30, 31, 32, 33, 62, 63, 64, 65, 95, 96, 127, 128, 192} {
		list = append(list, power(n, 0), power(n, 1))
		if n > 1 {
			list = append(list, power(n, -1))
		}
	}
	r := &random{state: 7}
	for n := 1; n <= 8; n++ {
		list = append(list, r.number(n), r.number(n))
	}
	return list
}

// kept calls f with arguments for the values, and reports an error if it changes one of them or what lies behind it, or if a result shares memory with an argument or with another result.
func kept(t *testing.T, what string, f func(args []api.Nat) []api.Nat, values ...*big.Int) {
	t.Helper()
	var args, before []api.Nat
	for i, n := range values {
		arg := loose(n, i%3)
		args = append(args, arg)
		before = append(before, slices.Clone(arg[:cap(arg)]))
	}
	results := f(args)
	var first []api.Nat
	for _, result := range results {
		first = append(first, slices.Clone(result))
	}
	for i := range results {
		if !slices.Equal(results[i], first[i]) {
			t.Errorf("%s: result %d shares memory with another result", what, i)
		}
		for j := range results[i] {
			results[i][j] ^= 0x55555555
		}
	}
	for i := range args {
		if !slices.Equal(args[i][:cap(args[i])], before[i]) {
			t.Errorf("%s: argument %d is changed, or shares memory with a result", what, i)
		}
	}
	for i, result := range f(args) {
		if !slices.Equal(result, first[i]) {
			t.Errorf("%s: result %d of the second call differs", what, i)
		}
	}
}
