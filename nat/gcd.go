package nat

import "codewright/api"

// leadBits is the number of leading binary digits by which Gcd reckons. With it, the products of limbs and cofactors fit into an int64.
const leadBits = 62

// Gcd returns the greatest common divisor of a and b.
func Gcd(a, b api.Nat) api.Nat {
	if Cmp(a, b) < 0 {
		a, b = b, a
	}
	a, b = significant(a), significant(b)
	for len(b) > 2 {
		a, b = reduce(a, b)
	}
	if len(b) == 0 {
		return Trim(a)
	}
	if len(a) > 2 {
		_, rem, _ := DivMod(a, b)
		a, b = b, rem
	}
	return Of(wordGcd(word(a), word(b)))
}

// wordGcd returns the greatest common divisor of a and b.
func wordGcd(a, b uint64) uint64 {
	for b != 0 {
		a, b = b, a%b
	}
	return a
}

// reduce returns two lesser numbers with the same greatest common divisor, the greater one first; a is at least b, and b has more than two limbs. They are the numbers that some steps of Euclid's algorithm lead to, or one step where the leading digits do not tell.
func reduce(a, b api.Nat) (api.Nat, api.Nat) {
	low := Bits(a) - leadBits
	first, second := cofactors(lead(a, low), lead(b, low))
	if first.b == 0 {
		_, rem, _ := DivMod(a, b)
		return b, rem
	}
	return combine(a, b, first), combine(a, b, second)
}

// lead returns the leadBits binary digits of a from the digit with the index low; all higher ones must be 0.
func lead(a api.Nat, low int) int64 {
	i, shift := low/limbBits, low%limbBits
	above := uint64(limbAt(a, i+2))<<limbBits | uint64(limbAt(a, i+1))
	return int64(above<<(limbBits-shift) | uint64(limbAt(a, i))>>shift)
}

// pair are the cofactors of a number that Euclid's algorithm leads to: it is the sum of the two numbers of its start multiplied by a and b.
type pair struct{ a, b int64 }

// cofactors follows Euclid's algorithm for two numbers with the leading digits x and y, as long as these tell that the next number is at least 0 and less than the one ahead of it: what is behind the digits changes a number by less than the absolute value of its cofactor b (in units of the last digit). The cofactors are then below 2^31.
func cofactors(x, y int64) (first, second pair) {
	first, second = pair{a: 1}, pair{b: 1}
	for y != 0 {
		quo := x / y
		next := pair{first.a - quo*second.a, first.b - quo*second.b}
		rest := x - quo*y
		if rest < size(next.b) || y-rest < size(next.b)+size(second.b) {
			break
		}
		first, second = second, next
		x, y = y, rest
	}
	return first, second
}

// size returns the absolute value of n.
func size(n int64) int64 {
	if n < 0 {
		return -n
	}
	return n
}

// combine returns the sum of a and b multiplied by the cofactors, which have unlike signs; it is at least 0 and at most a.
func combine(a, b api.Nat, by pair) api.Nat {
	out := make(api.Nat, len(a))
	carry := int64(0)
	for i, limb := range a {
		carry += int64(limb)*by.a + int64(limbAt(b, i))*by.b
		out[i] = uint32(carry)
		carry >>= limbBits
	}
	return significant(out)
}
