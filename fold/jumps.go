package fold

import (
	"tandem/api"
	"tandem/rcode"
)

// straighten lets jumps go straight to where they end, and leaves out what does nothing.
func (f *folder) straighten() {
	ends := endsOf(f.Ins)
	for i := range f.Ins {
		if to := rcode.Place(&f.Ins[i]); to != nil {
			*to = ends[*to]
		}
	}
	next := make([]int, len(f.Ins)+1) // of each place, the first one from there on that stays
	next[len(f.Ins)] = len(f.Ins)
	for i := len(f.Ins) - 1; i >= 0; i-- {
		next[i] = i
		if f.isIdle(i, ends, next) {
			next[i] = next[i+1]
		}
	}
	f.keep(func(i int) bool { return next[i] == i })
}

// isIdle tells whether an instruction does nothing: it moves a register to itself, or goes on at one place in any case.
func (f *folder) isIdle(i int, ends, next []int) bool {
	in := f.Ins[i]
	if in.Op == api.RMove {
		return in.A == in.B
	}
	to := rcode.Place(&in)
	if to == nil {
		return false
	}
	return *to > i && next[*to] == next[i+1] || in.Op == api.RIf && ends[i+1] == *to
}

// endsOf are, of each place, where a run that comes there is when it has jumped as long as it only jumps. Where jumps go round, that is one of them, the same for all that lead there.
func endsOf(ins []api.RIns) []int {
	const (
		unknown = -1
		isOpen  = -2 // it is one of the jumps that were just gone along
	)
	ends := make([]int, len(ins))
	for i := range ends {
		ends[i] = unknown
	}
	for i := range ins {
		var along []int
		at := i
		for ; ins[at].Op == api.RJump && ends[at] == unknown; at = ins[at].A {
			along = append(along, at)
			ends[at] = isOpen
		}
		end := ends[at]
		if end < 0 {
			end = at
		}
		for _, place := range append(along, at) {
			ends[place] = end
		}
	}
	return ends
}
