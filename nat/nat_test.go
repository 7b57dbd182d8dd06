package nat_test

import (
	"fmt"
	"math"
	"math/big"
	"testing"

	"codewright/api"
	"codewright/nat"
)

func TestForms(t *testing.T) {
	for _, n := range samples() {
		for zeros := range 4 {
			a := loose(n, zeros)
			same(t, "P1.1: Trim", nat.Trim(a), n)
			if have := nat.Bits(a); have != n.BitLen() {
				t.Errorf("P1.1: Bits of %v: %d", a, have)
			}
			want, fits := 0, n.IsInt64()
			if fits {
				want = int(n.Int64())
			}
			if have, ok := nat.Int(a); have != want || ok != fits {
				t.Errorf("P1.1: Int of %v: %d %v", a, have, ok)
			}
		}
	}
	for _, n := range []uint64{0, 1, 9, 1<<31 + 1, 1<<32 - 1, 1 << 32, 1<<32 + 3, 1<<63 - 1, 1 << 63, 1<<64 - 1} {
		same(t, "P1.1: Of", nat.Of(n), new(big.Int).SetUint64(n))
	}
}

func TestFormsOfNothing(t *testing.T) {
	for _, a := range []api.Nat{nil, {}, {0}, {0, 0, 0}} {
		if len(nat.Trim(a)) != 0 || nat.Bits(a) != 0 {
			t.Error("P1.1: 0 has no limbs and no digits:", a)
		}
		if n, ok := nat.Int(a); n != 0 || !ok {
			t.Error("P1.1: Int of 0:", n, ok)
		}
	}
	if n, ok := nat.Int(api.Nat{5, 0, 1}); n != 0 || ok {
		t.Error("P1.1: Int of 2^64 + 5:", n, ok)
	}
	if n, ok := nat.Int(api.Nat{5, 0, 0, 0, 0, 1}); n != 0 || ok {
		t.Error("P1.1: Int of 2^160 + 5:", n, ok)
	}
	for n := range uint(300) {
		if have := nat.Bits(loose(power(n, 0), int(n%3))); have != int(n)+1 {
			t.Errorf("P1.1: Bits of 2^%d: %d", n, have)
		}
	}
}

func TestOrderAndSums(t *testing.T) {
	list := samples()
	for i, x := range list {
		for j, y := range list {
			a, b := loose(x, i%3), loose(y, j%3)
			if have := nat.Cmp(a, b); have != x.Cmp(y) {
				t.Errorf("P1.2: Cmp(%v, %v): %d", a, b, have)
			}
			same(t, "P1.2: Add", nat.Add(a, b), new(big.Int).Add(x, y))
			same(t, "P1.2: Mul", nat.Mul(a, b), new(big.Int).Mul(x, y))
			have, e := nat.Sub(a, b)
			if x.Cmp(y) < 0 {
				refused(t, "P1.2: Sub", have, e, api.ErrRange)
				continue
			}
			same(t, "P1.2: Sub", have, new(big.Int).Sub(x, y))
			if e != api.OK {
				t.Errorf("P1.2: Sub(%v, %v): error %d", a, b, e)
			}
		}
	}
}

func TestSumsOfAnyNumber(t *testing.T) {
	same(t, "P1.2: Add of none", nat.Add(), big.NewInt(0))
	same(t, "P1.2: Mul of none", nat.Mul(), big.NewInt(1))
	r := &random{state: 11}
	for n := 1; n <= 40; n++ {
		var terms []api.Nat
		sum, prod := big.NewInt(0), big.NewInt(1)
		for i := range n {
			x := r.number(1 + r.below(5))
			if i != 0 && x.Sign() == 0 {
				x.SetInt64(1)
			}
			terms = append(terms, loose(x, r.below(3)))
			sum.Add(sum, x)
			prod.Mul(prod, x)
		}
		what := fmt.Sprintf("%d numbers", n)
		same(t, "P1.2: Add of "+what, nat.Add(terms...), sum)
		same(t, "P1.2: Mul of "+what, nat.Mul(terms...), prod)
		terms = append(terms, api.Nat{0, 0})
		same(t, "P1.2: Add of 0 and "+what, nat.Add(terms...), sum)
		same(t, "P1.2: Mul of 0 and "+what, nat.Mul(terms...), big.NewInt(0))
	}
	long := power(32*500, -1)
	same(t, "P1.2: a long carry", nat.Add(api.Nat{1}, loose(long, 0)), power(32*500, 0))
	same(t, "P1.2: a long carry", nat.Add(loose(long, 1), nil, api.Nat{1, 0}), power(32*500, 0))
	same(t, "P1.2: a long product", nat.Mul(loose(long, 1), loose(long, 2)), new(big.Int).Mul(long, long))
	have, e := nat.Sub(loose(power(32*500, 0), 2), api.Nat{1, 0, 0})
	if e != api.OK {
		t.Error("P1.2: Sub:", e)
	}
	same(t, "P1.2: a long borrow", have, long)
}

// divides reports an error unless DivMod of x and y is right.
func divides(t *testing.T, x, y *big.Int, zeros int) {
	t.Helper()
	quo, rem, e := nat.DivMod(loose(x, zeros), loose(y, 2-zeros))
	if y.Sign() == 0 {
		if e != api.ErrZero || len(quo) != 0 || len(rem) != 0 {
			t.Errorf("P1.3: DivMod by 0: %v %v %d", quo, rem, e)
		}
		return
	}
	if e != api.OK {
		t.Errorf("P1.3: DivMod(%v, %v): error %d", x, y, e)
	}
	q, r := new(big.Int).QuoRem(x, y, new(big.Int))
	same(t, fmt.Sprintf("P1.3: quotient of %v and %v", x, y), quo, q)
	same(t, fmt.Sprintf("P1.3: remainder of %v and %v", x, y), rem, r)
}

func TestDivision(t *testing.T) {
	list := samples()
	for i, x := range list {
		for _, y := range list {
			divides(t, x, y, i%3)
		}
	}
	r := &random{state: 5}
	for range 30000 {
		divides(t, r.number(1+r.below(7)), r.number(1+r.below(5)), r.below(3))
	}
	for range 20 {
		divides(t, r.number(300), r.number(1+r.below(300)), r.below(3))
	}
	for _, zero := range []api.Nat{nil, {}, {0}, {0, 0}} {
		for _, a := range []api.Nat{nil, {0}, {7}, {0, 0, 1}} {
			quo, rem, e := nat.DivMod(a, zero)
			if e != api.ErrZero || len(quo) != 0 || len(rem) != 0 {
				t.Errorf("P1.3: DivMod(%v, %v): %v %v %d", a, zero, quo, rem, e)
			}
		}
	}
}

// In these divisions the limb that the leading limbs suggest is too great, by one or by two.
func TestDivisionWithCorrections(t *testing.T) {
	for _, x := range []struct{ a, b api.Nat }{
		{api.Nat{0, 0xfffffffe, 0x80000000}, api.Nat{0xffffffff, 0x80000000}},
		{api.Nat{3, 0, 0x80000000}, api.Nat{1, 0, 0x20000000}},
		{api.Nat{0, 0, 0x80000000, 0x7fffffff}, api.Nat{1, 0, 0x80000000}},
		{api.Nat{0, 0, 0x8000, 0x7fff}, api.Nat{1, 0, 0x8000}},
		{api.Nat{0, 0xfffe, 0x8000}, api.Nat{0xffff, 0x8000}},
		{api.Nat{0, 0xfffffffe, 0, 0x80000000}, api.Nat{0xffff, 0, 0x80000000}},
		{api.Nat{0, 0, 0, 0x80000000, 0x7fffffff}, api.Nat{1, 0, 0, 0x80000000}},
		{api.Nat{0, 0, 0, 0x80000000, 0x80000000}, api.Nat{0xffffffff, 0xffffffff, 0xffffffff, 0x80000000}},
		{api.Nat{0, 0, 0, 0xffffffff, 0xfffffffe}, api.Nat{0xffffffff, 0xffffffff, 0xffffffff}},
	} {
		divides(t, value(x.a), value(x.b), 1)
	}
}

// divisor reports an error unless Gcd of x and y is right, in both orders.
func divisor(t *testing.T, x, y *big.Int, zeros int) {
	t.Helper()
	want := new(big.Int).GCD(nil, nil, x, y)
	same(t, fmt.Sprintf("P1.3: Gcd of %v and %v", x, y), nat.Gcd(loose(x, zeros), loose(y, 2-zeros)), want)
	same(t, fmt.Sprintf("P1.3: Gcd of %v and %v", y, x), nat.Gcd(loose(y, zeros), loose(x, 2-zeros)), want)
}

func TestGcd(t *testing.T) {
	list := samples()
	for i, x := range list {
		for _, y := range list {
			divisor(t, x, y, i%3)
		}
	}
	r := &random{state: 3}
	for range 3000 {
		common := r.number(1 + r.below(6))
		x := new(big.Int).Mul(common, r.number(1+r.below(9)))
		y := new(big.Int).Mul(common, r.number(1+r.below(9)))
		divisor(t, x, y, r.below(3))
		divisor(t, x, new(big.Int).Add(x, big.NewInt(1)), r.below(3))
		divisor(t, x, new(big.Int).Mul(x, y), r.below(3))
	}
	// Euclid's algorithm takes the most steps for consecutive Fibonacci numbers.
	x, y := big.NewInt(1), big.NewInt(1)
	for i := range 2000 {
		x, y = y, new(big.Int).Add(x, y)
		if i%7 == 0 {
			divisor(t, x, y, i%3)
			divisor(t, new(big.Int).Mul(x, power(77, 1)), new(big.Int).Mul(y, power(77, 1)), i%3)
		}
	}
	divisor(t, r.number(2000), r.number(2000), 0)
}

func TestGcdWithZero(t *testing.T) {
	for _, zero := range []api.Nat{nil, {}, {0}, {0, 0}} {
		same(t, "P1.3: Gcd of 0 and 0", nat.Gcd(zero, nil), big.NewInt(0))
		same(t, "P1.3: Gcd of 0 and 0", nat.Gcd(api.Nat{0}, zero), big.NewInt(0))
		for _, n := range samples() {
			same(t, "P1.3: Gcd of 0 and another", nat.Gcd(zero, loose(n, 1)), n)
			same(t, "P1.3: Gcd of another and 0", nat.Gcd(loose(n, 1), zero), n)
		}
	}
}

func TestArgumentsAreKept(t *testing.T) {
	unary := func(f func(a api.Nat) api.Nat) func([]api.Nat) []api.Nat {
		return func(args []api.Nat) []api.Nat { return []api.Nat{f(args[0])} }
	}
	first := func(a api.Nat, _ api.Errno) api.Nat { return a }
	calls := map[string]func(args []api.Nat) []api.Nat{
		"Trim":    unary(nat.Trim),
		"Of":      unary(func(a api.Nat) api.Nat { return nat.Of(uint64(nat.Bits(a))) }),
		"Add of1": unary(func(a api.Nat) api.Nat { return nat.Add(a) }),
		"Mul of1": unary(func(a api.Nat) api.Nat { return nat.Mul(a) }),
		"none":    func([]api.Nat) []api.Nat { return []api.Nat{nat.Add(), nat.Mul()} },
		"Add":     func(args []api.Nat) []api.Nat { return []api.Nat{nat.Add(args...)} },
		"Mul":     func(args []api.Nat) []api.Nat { return []api.Nat{nat.Mul(args...)} },
		"Sub":     func(args []api.Nat) []api.Nat { return []api.Nat{first(nat.Sub(args[0], args[1]))} },
		"Gcd":     func(args []api.Nat) []api.Nat { return []api.Nat{nat.Gcd(args[0], args[1])} },
		"Pow0":    unary(func(a api.Nat) api.Nat { return first(nat.Pow(a, 0)) }),
		"Pow1":    unary(func(a api.Nat) api.Nat { return first(nat.Pow(a, 1)) }),
		"Pow5":    unary(func(a api.Nat) api.Nat { return first(nat.Pow(a, 5)) }),
		"Choose":  func([]api.Nat) []api.Nat { return []api.Nat{first(nat.Binomial(9, 0)), first(nat.Binomial(50, 25))} },
		"Parse":   func([]api.Nat) []api.Nat { return []api.Nat{first(nat.Parse("1")), first(nat.Parse("123456789012"))} },
		"Text":    unary(func(a api.Nat) api.Nat { return api.Nat{uint32(len(nat.Text(a)))} }),
		"Cmp":     func(args []api.Nat) []api.Nat { return []api.Nat{{uint32(1 + nat.Cmp(args[0], args[1]))}} },
		"DivMod": func(args []api.Nat) []api.Nat {
			quo, rem, _ := nat.DivMod(args[0], args[1])
			return []api.Nat{quo, rem}
		},
		"Int": unary(func(a api.Nat) api.Nat {
			n, _ := nat.Int(a)
			return api.Nat{uint32(n)}
		}),
	}
	values := []*big.Int{big.NewInt(0), big.NewInt(1), big.NewInt(35), power(32, 5), power(64, 0), power(200, -9)}
	for name, call := range calls {
		for _, x := range values {
			for _, y := range values {
				kept(t, name, call, x, y)
				kept(t, name, call, x, y, big.NewInt(3))
			}
		}
	}
}

func TestSameNumberTwice(t *testing.T) {
	for _, n := range samples() {
		a := loose(n, 1)
		same(t, "P1.2: Add(a, a)", nat.Add(a, a), new(big.Int).Lsh(n, 1))
		same(t, "P1.2: Mul(a, a)", nat.Mul(a, a), new(big.Int).Mul(n, n))
		same(t, "P1.3: Gcd(a, a)", nat.Gcd(a, a), n)
		rest, e := nat.Sub(a, a)
		same(t, "P1.2: Sub(a, a)", rest, big.NewInt(0))
		if e != api.OK || nat.Cmp(a, a) != 0 {
			t.Error("P1.2: a number and itself:", a, e)
		}
		divides(t, n, n, 1)
	}
}

func TestExampleNumbers(t *testing.T) {
	a := nat.Add(nat.Of(math.MaxUint64), nat.Of(1))
	same(t, "2^64", a, power(64, 0))
	if len(a) != 3 || a[2] != 1 || nat.Bits(a) != 65 {
		t.Error("2^64 is", a)
	}
	quo, rem, e := nat.DivMod(a, api.Nat{10})
	same(t, "2^64 divided by 10", quo, number("1844674407370955161"))
	same(t, "2^64 modulo 10", rem, big.NewInt(6))
	if e != api.OK {
		t.Error("2^64 divided by 10:", e)
	}
}
