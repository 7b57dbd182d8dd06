package rational

import (
	"strings"

	"codewright/api"
	"codewright/nat"
)

// Text returns a as decimal digits, with a minus sign and a denominator where it has them.
func Text(a api.Rat) string {
	a = Trim(a)
	text := nat.Text(a.Num)
	if a.Neg {
		text = "-" + text
	}
	if !isOne(a.Den) {
		text += "/" + nat.Text(a.Den)
	}
	return text
}

// Parse returns the fraction with the text s. Errors: ErrBig if s has more than MaxDigits bytes, ErrSyntax if it is no fraction, ErrForm if it is a fraction, but not the text of one.
func Parse(s string) (api.Rat, api.Errno) {
	if len(s) > api.MaxDigits {
		return api.Rat{}, api.ErrBig
	}
	digits, neg := strings.CutPrefix(s, "-")
	above, below, divided := strings.Cut(digits, "/")
	num, e := nat.Parse(above)
	if e != api.OK {
		return api.Rat{}, e
	}
	den := one()
	if divided {
		if den, e = nat.Parse(below); e != api.OK {
			return api.Rat{}, e
		}
	}
	value := api.Rat{Neg: neg, Num: num, Den: den}
	if !Is(value) || divided && isOne(den) {
		return api.Rat{}, api.ErrForm
	}
	return value, api.OK
}
