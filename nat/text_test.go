package nat_test

import (
	"math/big"
	"strings"
	"testing"

	"codewright/api"
	"codewright/nat"
)

// reads reports an error unless the number and its text are turned into each other.
func reads(t *testing.T, n *big.Int, zeros int) {
	t.Helper()
	if have := nat.Text(loose(n, zeros)); have != n.String() {
		t.Errorf("P1.6: Text of %v: %s", n, have)
	}
	have, e := nat.Parse(n.String())
	same(t, "P1.6: Parse", have, n)
	if e != api.OK {
		t.Errorf("P1.6: Parse(%v): error %d", n, e)
	}
}

func TestTexts(t *testing.T) {
	for i, n := range samples() {
		reads(t, n, i%3)
	}
	ten := big.NewInt(1)
	for i := range 120 {
		for _, add := range []int64{-1, 0, 1, 5} {
			reads(t, new(big.Int).Add(ten, big.NewInt(add)), i%3)
		}
		ten = new(big.Int).Mul(ten, big.NewInt(10))
	}
	r := &random{state: 19}
	for range 500 {
		reads(t, r.number(1+r.below(40)), r.below(3))
	}
	for _, zero := range []api.Nat{nil, {}, {0}, {0, 0}} {
		if nat.Text(zero) != "0" {
			t.Error("P1.6: the text of 0 is", nat.Text(zero))
		}
	}
	long := power(40000, -1)
	if nat.Text(loose(long, 1)) != long.String() {
		t.Error("P1.6: the text of a number with more than MaxDigits digits")
	}
}

func TestParseRefuses(t *testing.T) {
	for _, s := range []string{"", "00", "01", "007", "0x1", "00000000000", "-1", "+1", "-0", " 1", "1 ", "1_0", "1.0", "1e3", "a", "1a", "a1", "1/2", "1\n", "\x00", "١", "1１", "12345678a", "123456789a", "a234567890", "1234567890123456789-", "0000000001"} {
		have, e := nat.Parse(s)
		refused(t, "P1.6: Parse("+s+")", have, e, api.ErrSyntax)
	}
	for b := range 256 {
		if b >= '0' && b <= '9' {
			continue
		}
		for at := range 12 {
			s := []byte("123456789012")
			s[at] = byte(b)
			have, e := nat.Parse(string(s))
			refused(t, "P1.6: a byte that is no digit", have, e, api.ErrSyntax)
			have, e = nat.Parse(string(s[at : at+1]))
			refused(t, "P1.6: a byte that is no digit", have, e, api.ErrSyntax)
		}
	}
	have, e := nat.Parse("0")
	refused(t, "P1.6: Parse(0)", have, e, api.OK)
}

func TestParseAtTheLimit(t *testing.T) {
	if api.MaxDigits != 10000 {
		t.Fatal("MaxDigits is", api.MaxDigits)
	}
	for _, s := range []string{strings.Repeat("9", 10000), "1" + strings.Repeat("0", 9999), strings.Repeat("1234567890", 1000), strings.Repeat("8", 9999)} {
		reads(t, number(s), 0)
	}
	for _, s := range []string{strings.Repeat("0", 10000), "0" + strings.Repeat("1", 9999), strings.Repeat("9", 9999) + "x", "x" + strings.Repeat("9", 9999)} {
		have, e := nat.Parse(s)
		refused(t, "P1.6: a text of MaxDigits bytes", have, e, api.ErrSyntax)
	}
	for _, s := range []string{strings.Repeat("9", 10001), "1" + strings.Repeat("0", 10000), strings.Repeat("0", 10001), strings.Repeat("x", 10001), strings.Repeat("é", 5001), strings.Repeat("1", 1<<20)} {
		have, e := nat.Parse(s)
		refused(t, "P1.6: ErrBig comes ahead of ErrSyntax", have, e, api.ErrBig)
	}
}
