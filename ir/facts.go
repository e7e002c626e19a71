package ir

import "tandem/api"

// facts are what a run finds of slots at merges.
type facts struct {
	found   []slotFacts // by the slots' numbers
	follows [][]int     // to which slots the ways go that bring what is in a slot
}

// slotFacts are what is found of a slot at a merge.
type slotFacts struct {
	isNumber bool // a way brings it as a raw number that was worked out, or guarded, anyway
	isNever  bool // a way brings it as what is no number, or is not known to be one
	isGiven  bool // a way into the loop that begins there brings it as such a number
	isGuess  bool // a way into the loop brings it as what may be none: a guard would tell
	isWanted bool // a guard was put behind it that tells
}

// numberSlots numbers so many slots more; the first one's number is answered.
func (f *facts) numberSlots(n int) int {
	first := len(f.found)
	f.found = append(f.found, make([]slotFacts, n)...)
	f.follows = append(f.follows, make([][]int, n)...)
	return first
}

// forget makes facts ready for a new run. What was wanted stays: where it comes as a raw number no guard is put any more.
func (f *facts) forget() {
	for n, x := range f.found {
		f.found[n] = slotFacts{isWanted: x.isWanted}
		f.follows[n] = nil
	}
}

// noteBegin notes what a way into a loop brings.
func (f *facts) noteBegin(n int, t thing) {
	x := &f.found[n]
	switch {
	case t.in[asRaw] != none:
		x.isGiven = true
	case t.literal.kind == api.Int:
	case t.isOther:
		x.isNever = true
	default:
		x.isGuess = true
	}
}

// noteWay notes what another way brings. No guard is worth it there: it is a number, or comes from a merge where it can be one.
func (f *facts) noteWay(n int, t thing) {
	x := &f.found[n]
	switch {
	case t.in[asRaw] != none:
		x.isNumber = true
	case t.literal.kind == api.Int:
	case t.origin != none:
		f.follows[t.origin] = append(f.follows[t.origin], n)
	default:
		x.isNever = true
	}
}

// noteGuard notes that a guard tells whether a thing is a number.
func (f *facts) noteGuard(t thing) {
	if t.origin != none {
		f.found[t.origin].isWanted = true
	}
}

// areWorth tells of each slot whether it is worth coming as a raw number: it is one on some way, and can be one on all. Into a loop it may be brought as anything, if it is wanted as a number behind that: a guard ahead of the loop does then what one within would do.
func (f *facts) areWorth() []bool {
	n := len(f.found)
	is, isNot, isWanted := make([]bool, n), make([]bool, n), make([]bool, n)
	for n, x := range f.found {
		is[n], isWanted[n] = x.isNumber || x.isGiven && !x.isGuess, x.isWanted
	}
	spread(is, f.follows)
	spread(isWanted, turned(f.follows))
	for n, x := range f.found {
		isNot[n] = x.isNever || !is[n] || x.isGuess && !isWanted[n]
	}
	spread(isNot, f.follows)
	for n := range is {
		is[n] = !isNot[n]
	}
	return is
}

// turned are the same ways the other way round.
func turned(follows [][]int) [][]int {
	back := make([][]int, len(follows))
	for from, all := range follows {
		for _, to := range all {
			back[to] = append(back[to], from)
		}
	}
	return back
}

// spread lets what is so of a slot be so of all that follow from it.
func spread(is []bool, follows [][]int) {
	var todo []int
	for n, yes := range is {
		if yes {
			todo = append(todo, n)
		}
	}
	for len(todo) > 0 {
		last := len(todo) - 1
		n := todo[last]
		todo = todo[:last]
		for _, next := range follows[n] {
			if !is[next] {
				is[next] = true
				todo = append(todo, next)
			}
		}
	}
}
