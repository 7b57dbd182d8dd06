package rational_test

import (
	"math/big"
	"strings"
	"testing"

	"codewright/api"
	"codewright/rational"
)

// text returns what Text is to return for x.
func text(x *big.Rat) string {
	if x.IsInt() {
		return x.Num().String()
	}
	return x.String()
}

// reads reports an error unless the fraction and its text are turned into each other.
func reads(t *testing.T, x *big.Rat) {
	t.Helper()
	for _, a := range forms(x) {
		if have := rational.Text(a); have != text(x) {
			t.Errorf("P2.6: Text of %v: %s", x, have)
		}
	}
	have, e := rational.Parse(text(x))
	right(t, "P2.6: Parse of "+text(x), have, e, x)
}

func TestTexts(t *testing.T) {
	for _, x := range samples() {
		reads(t, x)
	}
	for num := int64(-15); num <= 15; num++ {
		for den := int64(1); den <= 15; den++ {
			reads(t, big.NewRat(num, den))
		}
	}
	r := &random{state: 47}
	for range 300 {
		reads(t, r.fraction(6))
	}
	long := new(big.Rat).SetFrac(new(big.Int).Exp(big.NewInt(7), big.NewInt(13000), nil), new(big.Int).Exp(big.NewInt(3), big.NewInt(25000), nil))
	if rational.Text(canonical(long)) != text(long) {
		t.Error("P2.6: the text of a fraction with more than MaxDigits digits")
	}
}

func TestParseRefuses(t *testing.T) {
	for _, s := range []string{
		"", "-", "/", "-/", "1/", "/2", "-/2", "-1/", "01", "-01", "00", "1/02", "1/00", "01/2", "1/-2", "-1/-2", "--1", "+1", "+1/2", "1/+2", "1/2/3", "1//2", "1/2/", " 1", "1 ", "1 /2", "1/ 2",
		"- 1", "1-", "1-2", "1.5", "1e3", "x", "1/x", "x/1", "2/4x", "00/0", "0/00", "-0/", "0/01", "5/1-", "٣", "1/٣", "1\n", "1/2\x00",
	} {
		have, e := rational.Parse(s)
		refused(t, "P2.6: Parse of "+s, have, e, api.ErrSyntax)
	}
	for _, s := range []string{
		"2/4", "5/1", "-5/1", "-0", "0/3", "-0/3", "3/0", "-3/0", "0/0", "-0/0", "0/1", "-0/1", "1/1", "6/4", "-6/4", "7/7", "10/5", "4294967296/2", "3/4294967295", "18446744073709551616/36893488147419103232",
	} {
		have, e := rational.Parse(s)
		refused(t, "P2.6: Parse of "+s, have, e, api.ErrForm)
	}
	for b := range 256 {
		if b >= '0' && b <= '9' {
			continue
		}
		for at := range 5 {
			s := []byte("12/35")
			s[at] = byte(b)
			if at == 0 && b == '-' || at == 2 && b == '/' {
				continue
			}
			have, e := rational.Parse(string(s))
			refused(t, "P2.6: Parse of "+string(s), have, e, api.ErrSyntax)
		}
	}
}

func TestParseAtTheLimit(t *testing.T) {
	nines := func(n int) string { return strings.Repeat("9", n) }
	for _, s := range []string{nines(10000), "-" + nines(9999), nines(9998) + "/2", "-" + nines(9997) + "/2", "1/" + nines(9998), nines(4999) + "/1" + strings.Repeat("0", 4999)} {
		if len(s) != api.MaxDigits {
			t.Fatal("a text that is not as long as the limit:", len(s))
		}
		have, e := rational.Parse(s)
		right(t, "P2.6: a text of MaxDigits bytes", have, e, fraction(s))
	}
	for _, s := range []string{nines(10001), "-" + nines(10000), nines(9999) + "/2", strings.Repeat("x", 10001), strings.Repeat("0", 10001), "-" + strings.Repeat("0", 10000), strings.Repeat("1/", 6000), "3/" + strings.Repeat("0", 9999), "2/4" + strings.Repeat("0", 9998)} {
		have, e := rational.Parse(s)
		refused(t, "P2.6: ErrBig comes ahead of ErrSyntax and ErrForm", have, e, api.ErrBig)
	}
	for _, s := range []string{nines(9999) + "x", "-0" + nines(9998), strings.Repeat("0", 10000), nines(9999) + "/"} {
		have, e := rational.Parse(s)
		refused(t, "P2.6: a text of MaxDigits bytes", have, e, api.ErrSyntax)
	}
	for _, s := range []string{"1" + strings.Repeat("0", 9997) + "/2", nines(9998) + "/1", nines(9998) + "/0", "-" + nines(9997) + "/3"} {
		have, e := rational.Parse(s)
		refused(t, "P2.6: a text of MaxDigits bytes", have, e, api.ErrForm)
	}
}
