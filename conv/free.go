package conv

import (
	"slices"

	"codewright/api"
	"codewright/number"
)

// mostPotential is the greatest potential of a state.
const mostPotential = 1 << 31

// A half is what a state alone, or an input alone, adds to a step: to the number of the state behind it, and to its output.
type half struct {
	next int
	out  []int
}

// A graph has the states of an encoder and the steps between them. Inputs are given by numbers, as states are.
type graph struct {
	encoder
	ofState, ofInput []half
}

// graph returns the graph of x.
func (x encoder) graph() graph {
	m := graph{encoder: x}
	zeros := make([]int, x.inputs())
	for state := range x.states {
		next, out := x.step(state, zeros)
		m.ofState = append(m.ofState, half{next, out})
	}
	// Check has found that there are not too many.
	count, _ := number.Exp(x.g.Order(), x.inputs(), api.MaxWords)
	for input := range count {
		next, out := x.step(0, m.listed(input))
		m.ofInput = append(m.ofInput, half{next, out})
	}
	return m
}

// listed returns the inputs that a number stands for.
func (m graph) listed(input int) []int {
	return digits(m.g.Order(), m.inputs(), input)
}

// move returns the state behind a step, and the weight of its output.
func (m graph) move(state, input int) (next, weight int) {
	a, b := m.ofState[state], m.ofInput[input]
	for j, y := range a.out {
		if m.g.Add(y, b.out[j]) != 0 {
			weight++
		}
	}
	// The digits of the inputs of a step are 0 in what the state adds.
	return a.next + b.next, weight
}

// A move is a step that leads to a given state.
type move struct{ from, input, weight int }

// moves returns, for each state, the steps that lead there from a state other than 0.
func (m graph) moves() [][]move {
	list := make([][]move, m.states)
	for state := 1; state < m.states; state++ {
		for input := range m.ofInput {
			next, weight := m.move(state, input)
			list[next] = append(list[next], move{state, input, weight})
		}
	}
	return list
}

// toZero returns, for each state, the least weight of the outputs on a way to the state 0, and the input with which such a way begins.
func (m graph) toZero() (weights, inputs []int) {
	// Steps with inputs of zeros lead to the state 0, so that all ways of least weight are lighter than this.
	most := m.outputs()*m.memory() + 1
	weights, inputs = slices.Repeat([]int{most}, m.states), make([]int, m.states)
	weights[0] = 0
	moves := m.moves()
	// By Dijkstra's algorithm, with a list of the states that may have it for each weight.
	found := make([][]int, most)
	found[0] = []int{0}
	for weight := range found {
		// Moves of weight 0 make the list longer.
		for i := 0; i < len(found[weight]); i++ {
			to := found[weight][i]
			if weights[to] < weight {
				continue
			}
			for _, x := range moves[to] {
				if total := weight + x.weight; total < weights[x.from] {
					weights[x.from], inputs[x.from] = total, x.input
					found[total] = append(found[total], x.from)
				}
			}
		}
	}
	return weights, inputs
}

// Free returns a proof whose Distance is the free distance.
func Free(c api.Conv) (api.FreePath, api.Errno) {
	x, e := open(c)
	if e != api.OK {
		return api.FreePath{}, e
	}
	m := x.graph()
	weights, inputs := m.toZero()
	p := api.FreePath{Potential: weights}
	first := 0
	for input := 1; input < len(m.ofInput); input++ {
		next, weight := m.move(0, input)
		if total := weight + weights[next]; first == 0 || total < p.Distance {
			p.Distance, first = total, input
		}
	}
	inputs[0] = first
	p.Message = m.circle(inputs)
	return p, api.OK
}

// circle returns the message that leads from the state 0 back to it, if in each state the input of this state follows.
func (m graph) circle(inputs []int) [][]int {
	var message [][]int
	for state := 0; state != 0 || len(message) == 0; {
		message = append(message, m.listed(inputs[state]))
		state, _ = m.move(state, inputs[state])
	}
	return message
}

// CheckFree returns OK if p is a proof for c, or ErrReject.
func CheckFree(c api.Conv, p api.FreePath) api.Errno {
	x, e := open(c)
	if e != api.OK {
		return e
	}
	if !x.reaches(p) || !x.bounds(p) {
		return api.ErrReject
	}
	return api.OK
}

// reaches reports whether the message of p has a nonzero input, and its terminated output the weight Distance.
func (x encoder) reaches(p api.FreePath) bool {
	isZero := true
	for _, step := range p.Message {
		if x.checkStep(step) != api.OK {
			return false
		}
		isZero = isZero && !slices.ContainsFunc(step, isNonzero)
	}
	if isZero {
		return false
	}
	weight := 0
	for _, out := range x.encode(p.Message, len(p.Message)+x.memory()) {
		for _, y := range out {
			weight += min(y, 1)
		}
	}
	return weight == p.Distance
}

// isNonzero reports whether the element y is not 0.
func isNonzero(y int) bool { return y != 0 }

// bounds reports whether the potentials of p are such that no message with a nonzero input has a terminated output of a weight below Distance.
func (x encoder) bounds(p api.FreePath) bool {
	if len(p.Potential) != x.states || p.Potential[0] != 0 || slices.Min(p.Potential) < 0 || slices.Max(p.Potential) > mostPotential {
		return false
	}
	m := x.graph()
	for state, low := range p.Potential {
		first := 0
		if state == 0 {
			first, low = 1, p.Distance
		}
		for input := first; input < len(m.ofInput); input++ {
			if next, weight := m.move(state, input); low > weight+p.Potential[next] {
				return false
			}
		}
	}
	return true
}
