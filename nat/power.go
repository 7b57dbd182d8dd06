package nat

import (
	"math/bits"

	"codewright/api"
)

// maxBits is the number of binary digits of the longest power.
const maxBits = api.MaxLimbs * limbBits

// Pow returns a to the power of n. Errors: ErrRange if n is below 0, ErrBig if the power has more than MaxLimbs limbs.
func Pow(a api.Nat, n int) (api.Nat, api.Errno) {
	if n < 0 {
		return nil, api.ErrRange
	}
	if n == 0 {
		return api.Nat{1}, api.OK
	}
	digits := Bits(a)
	if digits <= 1 {
		return Trim(a), api.OK
	}
	// The power is at least 2^((digits-1) n). Behind this check it has less than twice the greatest number of limbs, so it can be computed.
	if n > (maxBits-1)/(digits-1) {
		return nil, api.ErrBig
	}
	power := powerOf(significant(a), n)
	if len(power) > api.MaxLimbs {
		return nil, api.ErrBig
	}
	return power, api.OK
}

// powerOf returns a to the power of n by repeated squaring; n is at least 1.
func powerOf(a api.Nat, n int) api.Nat {
	power := Trim(a)
	for i := bits.Len(uint(n)) - 2; i >= 0; i-- {
		power = product(power, power)
		if n>>i&1 == 1 {
			power = product(power, a)
		}
	}
	return power
}

// Binomial returns the number of subsets with k elements of a set with n elements, or ErrRange.
func Binomial(n, k int) (api.Nat, api.Errno) {
	if n < 0 || n > api.MaxChoose {
		return nil, api.ErrRange
	}
	if k < 0 || k > n {
		return nil, api.OK
	}
	k = min(k, n-k)
	value := api.Nat{1}
	for i := 1; i <= k; i++ {
		// The value is the binomial coefficient of n-k+i and i, so the division leaves no remainder.
		value = shortMultiply(value, uint32(n-k+i), 0)
		shortDivide(value, uint32(i))
		value = significant(value)
	}
	return value, api.OK
}

// shortMultiply multiplies a by factor and adds term, in the memory of a.
func shortMultiply(a api.Nat, factor, term uint32) api.Nat {
	carry := uint64(term)
	for i, limb := range a {
		carry += uint64(limb) * uint64(factor)
		a[i] = uint32(carry)
		carry >>= limbBits
	}
	if carry != 0 {
		a = append(a, uint32(carry))
	}
	return a
}
