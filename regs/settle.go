package regs

import (
	"math/bits"

	"tandem/api"
	"tandem/rcode"
)

// settle finds homes: first it is tried whether all things fit into registers. If not, two registers are kept free at each place, for what is filled and spilled there.
func (a *assigner) settle() {
	if !a.settleBut(0) {
		a.settleBut(2)
	}
}

// settleBut finds homes that leave so many registers free; what gets none there is at home in a slot. Whether all got one is answered.
func (a *assigner) settleBut(spare int) bool {
	a.taken = make([]uint64, len(a.Ins))
	a.spare, a.patience = spare, patience
	for t := range a.known {
		a.known[t].place, a.known[t].isFirst = place{}, true
	}
	isAll := true
	for _, t := range a.order {
		isAll = a.house(t) && isAll
	}
	return isAll
}

// house finds a register for a thing, if there is one.
func (a *assigner) house(t int) bool {
	k := &a.known[t]
	if !a.seek(t, a.patience, a.isPut) {
		a.patience = 0
		return false
	}
	a.patience -= len(a.found)
	k.isFirst = a.isFound(0)
	for _, i := range k.puts {
		a.add(i + 1) // though nobody may want it: what is put stands somewhere
		if k.isMixed {
			a.add(i) // not in the place of the other thing of an RMove that is moved behind it
		}
	}
	free, wished := a.free(t)
	if free == 0 {
		return false
	}
	k.place = place{inRegister, a.choice(t, free, wished)}
	for _, i := range a.found {
		a.taken[i] |= 1 << k.n
	}
	return true
}

// free are the registers in which a thing may stand at all the places that were found; wished are those where it stands in a row, as is wished.
func (a *assigner) free(t int) (free, wished uint64) {
	free = below(a.n)
	for _, i := range a.found {
		row, own := a.row(i, t)
		free &^= a.taken[i] | row&^own
		wished |= own
		if bits.OnesCount64(a.taken[i]) >= a.n-a.spare {
			return 0, 0
		}
	}
	return free, wished & free
}

// row are the registers of an instruction's row, which are the last ones, and among them the one of a thing that it reads there.
func (a *assigner) row(i, t int) (row, own uint64) {
	first, n := rowOf(a.Ins[i])
	at := a.n - n
	row = below(a.n) &^ below(at)
	if place := t/2 - first; isBelow(place, n) && kindOf(t) == aValue {
		own = 1 << (at + place)
	}
	return row, own
}

// rowOf is the row of registers that an instruction reads, if it is of two at least.
func rowOf(in api.RIns) (first, n int) {
	first, n = rcode.Row(in)
	if in.Op == api.RTail {
		first, n = in.A, n+1
	}
	if n < 2 {
		return 0, 0
	}
	return first, n
}

// choice is the one of free registers that saves most instructions.
func (a *assigner) choice(t int, free, wished uint64) int {
	var own, alike uint64
	if a.isArgument(t) {
		own = 1 << (t / 2)
	}
	for _, other := range a.known[t].alike {
		if k := a.known[other]; k.kind == inRegister {
			alike |= 1 << k.n
		} else if a.isArgument(other) {
			alike |= 1 << (other / 2)
		}
	}
	for _, some := range [...]uint64{own & free, wished, alike & free, free &^ below(a.depth)} {
		if some != 0 {
			return bits.TrailingZeros64(some)
		}
	}
	return bits.TrailingZeros64(free)
}

// below are the registers below one.
func below(n int) uint64 { return 1<<n - 1 }
