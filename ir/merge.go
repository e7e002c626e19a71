package ir

import "tandem/api"

// merge is a place where ways meet. Each slot comes there in a register of its own, its home: as a value, or, where that is worth it, as a raw number.
type merge struct {
	again bool   // a way leads back to it: it begins a loop
	raws  []bool // which slots come as raw numbers
	first int    // the number of its first slot among those of all merges
	at    int    // where its code begins; none, if it is not written yet
}

// how is how a slot comes.
func (m *merge) how(slot int) int {
	if m.raws[slot] {
		return asRaw
	}
	return asValue
}

// grow lets more slots come as raw numbers; false, if there are no more that are worth it.
func (m *merge) grow(isWorth []bool) bool {
	grown := false
	for slot, isRaw := range m.raws {
		if !isRaw && isWorth[m.first+slot] {
			m.raws[slot], grown = true, true
		}
	}
	return grown
}

// meet notes what a path brings.
func (p *path) meet(m *merge) {
	if m.raws == nil {
		m.raws, m.first = make([]bool, len(p.slots)), p.numberSlots(len(p.slots))
	}
	p.hold(ofMerges, len(p.slots))
	for slot, t := range p.slots {
		if m.again && !p.isBack {
			p.noteBegin(m.first+slot, t)
		} else {
			p.noteWay(m.first+slot, t)
		}
	}
}

// arrive comes to a merge: its code follows, if it is not written yet; else there is a jump to it.
func (p *path) arrive(m *merge) {
	p.meet(m)
	p.goHome(m)
	switch {
	case m.at == none:
		m.at = len(p.Ins)
		p.begin(m)
	case m.at == len(p.Ins): // nothing is done from there to here: the baseline machine may turn in such a loop
		p.leave()
	default:
		p.put(api.RIns{Op: api.RJump, A: m.at})
		p.isOver = true
	}
}

// begin lets nothing be known but where the slots stand.
func (p *path) begin(m *merge) {
	for slot := range p.slots {
		how := m.how(slot)
		p.slots[slot] = p.inRegister(how, p.home(how, slot))
		p.slots[slot].origin = m.first + slot
	}
	p.used, p.exit = [2]int{}, none
}

// goHome brings all slots to where a merge wants them. What guards, or works something out, comes first, as homes may still be read by it, and by exits; literals come last, as they read nothing.
func (p *path) goHome(m *merge) {
	var moves []move
	var literals []int
	for slot := range p.slots {
		how := m.how(slot)
		if p.isLiteralAs(slot, how) {
			literals = append(literals, slot)
			continue
		}
		if how == asRaw {
			p.number(slot)
		}
		if x := p.moveOf(slot, how); x.from != x.to {
			moves = append(moves, x)
		}
	}
	p.putAtOnce(moves)
	for _, slot := range literals {
		how := m.how(slot)
		p.bring(how, p.home(how, slot), p.slots[slot])
	}
}
