package ir

import "tandem/api"

// move brings what is in a register to another one; a value's may come from a raw number's.
type move struct {
	op, how  int
	to, from int
}

// moveOf is the move that brings a slot home.
func (p *path) moveOf(slot, how int) move {
	t, to := p.slots[slot], p.home(how, slot)
	if t.in[how] == none {
		return move{api.RBox, how, to, t.in[asRaw]}
	}
	return move{api.RMove, how, to, t.in[how]}
}

// putAtOnce puts moves in such an order that none writes a register that another one has still to read. Where they go round, what is in one of the registers is kept elsewhere first.
func (p *path) putAtOnce(moves []move) {
	readers, writers := map[int]int{}, map[int]int{} // how many read a register; which one writes it, counted from 1 on
	for i, m := range moves {
		readers[m.from]++
		writers[m.to] = i + 1
	}
	put := func(i int) {
		for i >= 0 && moves[i].op != 0 && readers[moves[i].to] == 0 {
			m := moves[i]
			p.put(api.RIns{Op: m.op, A: m.to, B: m.from})
			moves[i].op = 0
			readers[m.from]--
			i = writers[m.from] - 1
		}
	}
	for i := range moves {
		put(i)
	}
	for i := range moves {
		if m := moves[i]; m.op != 0 {
			p.keep(moves, m.to, m.how)
			readers[m.to] = 0
			put(i)
		}
	}
}

// keep lets moves read another register, in which is what they were to read.
func (p *path) keep(moves []move, from, how int) {
	kept := p.fresh(how)
	p.put(api.RIns{Op: api.RMove, A: kept, B: from})
	for i := range moves {
		if moves[i].from == from {
			moves[i].from = kept
		}
	}
}
