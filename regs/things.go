package regs

import (
	"slices"

	"tandem/api"
	"tandem/rcode"
)

// Kinds of things, a bit for each.
const (
	aValue = 1 << iota
	aRaw
)

// thing numbers what a register holds of a kind.
func thing(register, kind int) int { return 2*register + kind/aRaw }

// things are those of a register, of some kinds.
func things(register, kinds int) []int {
	var all []int
	for _, kind := range [...]int{aValue, aRaw} {
		if kinds&kind != 0 {
			all = append(all, thing(register, kind))
		}
	}
	return all
}

// kindOf is the kind of a thing.
func kindOf(t int) int { return aValue << (t % 2) }

// readKind is the kind of what instructions of an Op (but RMove) read.
func readKind(op int) int {
	switch op {
	case api.RBox, api.RAdd, api.RSub, api.RMul, api.RLess, api.RSame:
		return aRaw
	}
	return aValue
}

// putKind is the kind of what instructions of an Op (but RMove) put into their register.
func putKind(op int) int {
	switch op {
	case api.RRaw, api.RUnbox, api.RAdd, api.RSub, api.RMul:
		return aRaw
	}
	return aValue
}

// locKind is the kind of what an exit finds in a register.
func locKind(l api.Loc) int {
	if l.Kind == api.InRaw {
		return aRaw
	}
	return aValue
}

// readAt are the things that an instruction reads.
func (a *assigner) readAt(i int) []int {
	in, kinds := a.Ins[i], readKind(a.Ins[i].Op)
	if in.Op == api.RMove {
		kinds = a.moved[i]
	}
	var all []int
	for _, r := range rcode.Read(in) {
		all = append(all, things(r, kinds)...)
	}
	return all
}

// readBy are the things that an exit reads, each once.
func readBy(e api.Exit) []int {
	var all []int
	for _, f := range e.Frames {
		for _, l := range append([]api.Loc{f.Self}, f.Slots...) {
			if l.Kind == api.InReg || l.Kind == api.InRaw {
				all = append(all, thing(l.N, locKind(l)))
			}
		}
	}
	slices.Sort(all)
	return slices.Compact(all)
}

// putAt are the things that an instruction puts.
func (a *assigner) putAt(i int) []int {
	in := a.Ins[i]
	switch {
	case in.Op == api.RMove:
		return things(in.A, a.moved[i])
	case rcode.Writes(in.Op):
		return things(in.A, putKind(in.Op))
	}
	return nil
}

func (a *assigner) isPut(i, t int) bool {
	return writes(a.Ins[i], t/2) && slices.Contains(a.putAt(i), t)
}
