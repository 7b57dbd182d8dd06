package number

import "codewright/api"

// Product returns the product of l if it is at most most, or ErrRange, ErrBig.
func Product(most int, l ...int) (int, api.Errno) {
	if most < 0 {
		return 0, api.ErrRange
	}
	zero := false
	for _, x := range l {
		if x < 0 {
			return 0, api.ErrRange
		}
		zero = zero || x == 0
	}
	if zero {
		return 0, api.OK
	}
	product, e := times(1, 1, most)
	for i := 0; i < len(l) && e == api.OK; i++ {
		product, e = times(product, l[i], most)
	}
	return product, e
}

// times returns a*b if it is at most most, or ErrBig; a and most are not negative, and b is positive.
func times(a, b, most int) (int, api.Errno) {
	// The division tells, without an overflow, whether the product is too great.
	if a > most/b {
		return 0, api.ErrBig
	}
	return a * b, api.OK
}

// Exp returns q to the power of k if it is at most most, or ErrRange, ErrBig.
func Exp(q, k, most int) (int, api.Errno) {
	if q < 0 || k < 0 || most < 0 {
		return 0, api.ErrRange
	}
	if q == 0 && k > 0 {
		return 0, api.OK
	}
	if q == 1 {
		k = 0 // All powers of 1 are equal, but for other q the loop ends soon, since the power at least doubles in each step.
	}
	power, e := times(1, 1, most)
	for ; k > 0 && e == api.OK; k-- {
		power, e = times(power, q, most)
	}
	return power, e
}

// Choose returns the number of k-element subsets of a set of n elements if it is at most most, or ErrRange, ErrBig.
func Choose(n, k, most int) (int, api.Errno) {
	if n < 0 || k < 0 || most < 0 {
		return 0, api.ErrRange
	}
	if k > n {
		return 0, api.OK
	}
	k = min(k, n-k)
	// count is the number of ways to choose step of n-k+step elements. It at least doubles in each step, so that the loop ends soon.
	count, e := times(1, 1, most)
	for step := 1; step <= k && e == api.OK; step++ {
		common, _ := cofactor(count, step)
		count, e = times(count/common, (n-k+step)/(step/common), most)
	}
	return count, e
}
