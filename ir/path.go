package ir

import (
	"slices"

	"tandem/api"
)

// path is one way through the bytecode, up to where it ends or meets another one: the builder whose instruction is next, and what is in the slots of all frames.
type path struct {
	*builder
	pc, next int
	slots    []thing
	used     [2]int // how many temps are
	exit     int    // where guards go as long as nothing is done that can be told; none, if there is no exit yet
	from     int    // the RIf that leads here, or none
	isBack   bool   // it comes from behind, or from here
	isOver   bool
}

// follow writes code up to the path's end.
func (p *path) follow() {
	if p.from != none {
		p.Ins[p.from].B = len(p.Ins)
	}
	for !p.isOver && !p.long {
		if m := p.places[p.pc].merge; m != nil {
			p.arrive(m)
		}
		if !p.isOver {
			p.step()
		}
	}
}

// step writes code for the next instruction.
func (p *path) step() {
	b, pc := p.builder, p.pc
	p.next = pc + 1
	if p.places[pc].stops {
		p.leave()
		return
	}
	p.do(p.bytecode[pc])
	p.isBack = p.builder == b && p.next <= pc
	p.pc = p.next
}

// leave goes on with the frames as they stand.
func (p *path) leave() {
	p.put(api.RIns{Op: api.RExit, E: p.newExit()})
	p.isOver = true
}

func (p *path) push(t thing) { p.slots = append(p.slots, t) }

// drop pops so many.
func (p *path) drop(n int) { p.slots = p.slots[:len(p.slots)-n] }

// top is the slot that is that far below the last one.
func (p *path) top(n int) int { return len(p.slots) - 1 - n }

// fresh is a register for what is worked out now.
func (p *path) fresh(how int) int {
	p.used[how]++
	return p.temp(how, p.used[how]-1)
}

// learn keeps that a thing is in a register too.
func (p *path) learn(t thing, how, register int) {
	for i := range p.slots {
		if p.slots[i].id == t.id {
			p.slots[i].in[how] = register
		}
	}
}

// value is a register that holds a slot's value.
func (p *path) value(slot int) int {
	t := p.slots[slot]
	if t.in[asValue] != none {
		return t.in[asValue]
	}
	r := p.fresh(asValue)
	p.bring(asValue, r, t)
	p.learn(t, asValue, r)
	return r
}

// bring brings a thing into a register. (Nothing but a literal is brought so as a raw number.)
func (p *path) bring(how, register int, t thing) {
	switch {
	case how == asRaw:
		p.put(api.RIns{Op: api.RRaw, A: register, B: p.raws.of(int64(t.literal.n))})
	case t.in[asValue] != none:
		p.put(api.RIns{Op: api.RMove, A: register, B: t.in[asValue]})
	case t.isLiteral():
		p.put(api.RIns{Op: api.RConst, A: register, B: p.consts.of(t.literal)})
	default:
		p.put(api.RIns{Op: api.RBox, A: register, B: t.in[asRaw]})
	}
}

// isLiteralAs tells whether a slot is a literal that can be had in that way, and is in no register yet.
func (p *path) isLiteralAs(slot, how int) bool {
	t := p.slots[slot]
	return t.in[how] == none && (t.literal.kind == api.Int || how == asValue && t.isLiteral())
}

// number is a register that holds a slot's raw number; a guard sees to it that it is one.
func (p *path) number(slot int) int {
	t := p.slots[slot]
	if t.in[asRaw] != none {
		return t.in[asRaw]
	}
	r := p.fresh(asRaw)
	if p.isLiteralAs(slot, asRaw) {
		p.bring(asRaw, r, t)
	} else {
		p.noteGuard(t)
		p.put(api.RIns{Op: api.RUnbox, A: r, B: p.value(slot), E: p.guard()})
	}
	p.learn(t, asRaw, r)
	return r
}

// inRow is the first of registers in a row that hold the values of the last slots, so many of them.
func (p *path) inRow(n int) int {
	switch n {
	case 0:
		return 0
	case 1:
		return p.value(p.top(0))
	}
	if p.row == none {
		p.row = p.registers(p.longest)
	}
	first := p.top(n - 1)
	for i := range n {
		p.bring(asValue, p.row+i, p.slots[first+i])
	}
	return p.row
}

// split lets the path go on at two places: at one of them, if a register holds false, at the other, if it does not. The first of these is followed later.
func (p *path) split(condition, isFalse, isNot int) {
	other := *p
	other.slots = slices.Clone(p.slots)
	other.pc, other.from, other.isBack = isFalse, len(p.Ins), isFalse <= p.pc
	p.put(api.RIns{Op: api.RIf, A: condition})
	p.wait(other)
	p.next = isNot
}
