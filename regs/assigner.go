package regs

import (
	"cmp"
	"slices"

	"tandem/api"
	"tandem/rcode"
)

// patience is how many places are looked at to find homes for all things of a code; it keeps long code with many registers from taking long. What was not looked at by then is at home in a slot.
const patience = 1 << 24

// Kinds of places where things stand.
const (
	nowhere = iota
	inRegister
	inSlot
)

// place is where a thing stands.
type place struct{ kind, n int }

// known is what is known of a thing.
type known struct {
	place
	puts    []int // the instructions that put it
	alike   []int // the things that it is moved to, or from
	worth   int   // the greater, the sooner it gets a register
	isFirst bool  // it may be wanted at the beginning
	isMixed bool  // it may be moved though it was never put: its register holds the other thing then
}

// assigner finds homes for the things of a code with n registers, whose frame has so many slots at the beginning.
type assigner struct {
	api.Code
	*lookout
	n, depth int
	moved    []int // of each RMove, the kinds of things that it may move
	known    []known
	order    []int    // the things that there are, by their worth
	taken    []uint64 // of each place, a bit for each register that holds something there
	spare    int      // how many registers hold nothing at any place
	patience int
}

func assignerOf(c api.Code, n, depth int) *assigner {
	a := &assigner{Code: c, n: n, depth: depth, known: make([]known, 2*c.Regs)}
	a.findMoved()
	a.lookout = lookoutOf(c, 2*c.Regs, a.readAt, readBy)
	for i := range c.Ins {
		a.note(i)
	}
	a.rank()
	return a
}

// note keeps what an instruction tells of the things that it puts and moves.
func (a *assigner) note(i int) {
	for _, t := range a.putAt(i) {
		a.known[t].puts = append(a.known[t].puts, i)
	}
	in := a.Ins[i]
	if in.Op != api.RMove {
		return
	}
	for _, r := range [...]int{in.A, in.B} {
		for _, t := range things(r, a.moved[i]) {
			k := &a.known[t]
			k.alike = append(k.alike, thing(in.A+in.B-r, kindOf(t)))
			k.isMixed = k.isMixed || a.moved[i] == aValue|aRaw
		}
	}
}

// rank finds the order of things. What is read and put often, in inner loops and within few instructions, comes first.
func (a *assigner) rank() {
	weights := weightsOf(a.Ins)
	for t := range a.known {
		k := &a.known[t]
		places := slices.Concat(a.direct[t], k.puts)
		if len(places) == 0 && !a.isRead(t) {
			continue
		}
		a.order = append(a.order, t)
		if a.isArgument(t) {
			places = append(places, 0)
		}
		sum := 0
		for _, i := range places {
			sum += weights[i]
		}
		if len(places) > 0 {
			k.worth = sum * 256 / (slices.Max(places) - slices.Min(places) + 1)
		}
	}
	slices.SortStableFunc(a.order, func(s, t int) int { return cmp.Compare(a.known[t].worth, a.known[s].worth) })
}

// weightsOf tells of each instruction what it is worth that it is short: the more, the more loops are around it.
func weightsOf(ins []api.RIns) []int {
	const deepest = 4
	turns := make([]int, len(ins)+1) // by how much more loops are around a place than around the one ahead of it
	for i, in := range ins {
		if to := rcode.Place(&in); to != nil && *to <= i {
			turns[*to]++
			turns[i+1]--
		}
	}
	weights := make([]int, len(ins))
	loops := 0
	for i := range ins {
		loops += turns[i]
		weights[i] = 1 << (3 * min(loops, deepest))
	}
	return weights
}

// isArgument tells whether a thing stands in a register from the beginning on.
func (a *assigner) isArgument(t int) bool { return t < 2*a.depth && kindOf(t) == aValue }
