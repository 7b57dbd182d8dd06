package nat

import (
	"math"
	"math/bits"

	"codewright/api"
)

// DivMod returns the quotient and the remainder of a divided by b, or ErrZero.
func DivMod(a, b api.Nat) (quo, rem api.Nat, e api.Errno) {
	a, b = significant(a), significant(b)
	if len(b) == 0 {
		return nil, nil, api.ErrZero
	}
	if Cmp(a, b) < 0 {
		return nil, Trim(a), api.OK
	}
	if len(b) == 1 {
		quo = Trim(a)
		low := shortDivide(quo, b[0])
		return significant(quo), Of(uint64(low)), api.OK
	}
	quo, rem = longDivide(a, b)
	return quo, rem, api.OK
}

// shortDivide divides a by d in place, and returns the remainder.
func shortDivide(a api.Nat, d uint32) uint32 {
	rem := uint32(0)
	for i := len(a) - 1; i >= 0; i-- {
		a[i], rem = bits.Div32(rem, a[i], d)
	}
	return rem
}

// longDivide divides a by b, which is not greater and has at least two limbs. Each limb of the quotient is estimated from the leading limbs (Knuth's algorithm D), which is good only if the highest bit of the divisor is set: so both are shifted first.
func longDivide(a, b api.Nat) (quo, rem api.Nat) {
	shift := bits.LeadingZeros32(b[len(b)-1])
	divisor := shiftLeft(b, shift)[:len(b)]
	rem = shiftLeft(a, shift)
	quo = make(api.Nat, len(a)-len(b)+1)
	for i := len(quo) - 1; i >= 0; i-- {
		window := rem[i : i+len(b)+1]
		digit := estimate(window, divisor)
		if subtractMultiple(window, divisor, digit) {
			digit--
			addBack(window, divisor)
		}
		quo[i] = digit
	}
	shiftRight(rem, shift)
	return significant(quo), significant(rem)
}

// shiftLeft returns a multiplied by 2^shift, with one more limb than a; shift is below limbBits.
func shiftLeft(a api.Nat, shift int) api.Nat {
	out := make(api.Nat, len(a)+1)
	for i, limb := range a {
		wide := uint64(limb) << shift
		out[i] |= uint32(wide)
		out[i+1] = uint32(wide >> limbBits)
	}
	return out
}

// shiftRight divides a by 2^shift in place; shift is below limbBits.
func shiftRight(a api.Nat, shift int) {
	for i := range a {
		wide := uint64(limbAt(a, i+1))<<limbBits | uint64(a[i])
		a[i] = uint32(wide >> shift)
	}
}

// estimate returns the quotient of window divided by divisor, or one more than it.
func estimate(window, divisor api.Nat) uint32 {
	n := len(divisor)
	lead := uint64(divisor[n-1])
	top := uint64(window[n])<<limbBits | uint64(window[n-1])
	digit, left := top/lead, top%lead
	for digit > math.MaxUint32 || digit*uint64(divisor[n-2]) > left<<limbBits|uint64(window[n-2]) {
		digit--
		left += lead
		if left > math.MaxUint32 {
			break
		}
	}
	return uint32(digit)
}

// subtractMultiple subtracts digit times divisor from window in place, and reports whether the difference is below 0; it is then too great by a power of 2^limbBits.
func subtractMultiple(window, divisor api.Nat, digit uint32) bool {
	carry, borrow := uint64(0), uint32(0)
	for i, limb := range divisor {
		carry += uint64(digit) * uint64(limb)
		window[i], borrow = bits.Sub32(window[i], uint32(carry), borrow)
		carry >>= limbBits
	}
	top := len(divisor)
	window[top], borrow = bits.Sub32(window[top], uint32(carry), borrow)
	return borrow != 0
}

// addBack adds divisor to window in place, and drops the carry: it is the borrow of subtractMultiple.
func addBack(window, divisor api.Nat) {
	carry := uint32(0)
	for i := range window {
		window[i], carry = bits.Add32(window[i], limbAt(divisor, i), carry)
	}
}
