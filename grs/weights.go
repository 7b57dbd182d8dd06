package grs

import (
	"codewright/api"
	"codewright/nat"
)

// Weights returns the numbers of codewords of the weights 0, 1, .., n.
func Weights(s api.GRS) ([]api.Nat, api.Errno) {
	g, e := open(s)
	if e != api.OK {
		return nil, e
	}
	n := len(s.Points)
	least := n - s.K + 1
	terms := excesses(g.Order(), s.K)
	list := make([]api.Nat, n+1)
	list[0] = nat.Of(1)
	for w := least; w <= n; w++ {
		list[w] = nat.Mul(choices(n, w), alternating(w, terms[:w-least+1]))
	}
	return list, api.OK
}

// excesses returns q - 1, q^2 - 1, .., q^k - 1.
func excesses(q, k int) []api.Nat {
	var list []api.Nat
	one, power := nat.Of(1), nat.Of(1)
	for range k {
		power = nat.Mul(power, nat.Of(uint64(q)))
		// A power of q is above 1.
		excess, _ := nat.Sub(power, one)
		list = append(list, excess)
	}
	return list
}

// choices returns the binomial coefficient of n and k, which are at most MaxN.
func choices(n, k int) api.Nat {
	value, _ := nat.Binomial(n, k)
	return value
}

// alternating returns the sum of (-1)^j C(w, j) times the entry of terms that is the last but j.
func alternating(w int, terms []api.Nat) api.Nat {
	var signed [2]api.Nat
	for j := range terms {
		term := nat.Mul(choices(w, j), terms[len(terms)-1-j])
		signed[j%2] = nat.Add(signed[j%2], term)
	}
	// The sum is the number of codewords with a given support of w positions, and so not negative.
	sum, _ := nat.Sub(signed[0], signed[1])
	return sum
}
