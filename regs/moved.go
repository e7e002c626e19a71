package regs

import (
	"math/bits"

	"tandem/api"
	"tandem/rcode"
)

// findMoved finds of each RMove the kinds of things that it may move: those that come there from what puts them. (Where finding out takes too long, it may be both.)
func (a *assigner) findMoved() {
	paths := pathsOf(a.Ins)
	may := a.mayHold()
	a.moved = make([]int, len(a.Ins))
	a.patience = patience
	next := make([][]int, len(a.Ins)) // of each RMove, those that may move on what it moved
	for i, in := range a.Ins {
		switch {
		case in.Op != api.RMove:
		case bits.OnesCount(uint(may[in.B])) < 2:
			a.moved[i] = may[in.B]
		default:
			for _, from := range a.origins(&paths, i, in.B) {
				next[from] = append(next[from], i)
			}
		}
	}
	spreadKinds(a.moved, next)
}

// mayHold are the kinds of things that registers hold at one place or another.
func (a *assigner) mayHold() []int {
	may := make([]int, a.Regs)
	next := make([][]int, a.Regs) // of each register, those to which it is moved
	for r := range a.depth {
		may[r] = aValue
	}
	for _, in := range a.Ins {
		switch {
		case in.Op == api.RMove:
			next[in.B] = append(next[in.B], in.A)
		case rcode.Writes(in.Op):
			may[in.A] |= putKind(in.Op)
		}
	}
	spreadKinds(may, next)
	return may
}

// spreadKinds lets all that comes next have the kinds of what it comes from, till nothing turns.
func spreadKinds(kinds []int, next [][]int) {
	var todo []int
	for i := range kinds {
		todo = append(todo, i)
	}
again:
	if len(todo) == 0 {
		return
	}
	last := len(todo) - 1
	from := todo[last]
	todo = todo[:last]
	for _, i := range next[from] {
		if more := kinds[i] | kinds[from]; more != kinds[i] {
			kinds[i] = more
			todo = append(todo, i)
		}
	}
	goto again
}

// origins notes the kinds of things that an RMove moves that come from other instructions, or from the beginning, and answers those RMoves from which others come.
func (a *assigner) origins(p *paths, i, register int) []int {
	puts := func(i int) bool { return writes(a.Ins[i], register) }
	p.begin()
	p.add(i)
	if !p.spread(a.patience, puts) {
		a.moved[i] = aValue | aRaw
		a.patience = 0
		return nil
	}
	a.patience -= len(p.found)
	if p.isFound(0) && register < a.depth {
		a.moved[i] |= aValue
	}
	var moves []int
	for _, place := range p.found {
		for _, from := range p.from[place] {
			switch {
			case !puts(from):
			case a.Ins[from].Op == api.RMove:
				moves = append(moves, from)
			default:
				a.moved[i] |= putKind(a.Ins[from].Op)
			}
		}
	}
	return moves
}
