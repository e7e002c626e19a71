package regs

import (
	"math/bits"

	"tandem/api"
	"tandem/rcode"
)

// writer writes code anew, with things at their homes.
type writer struct {
	*assigner
	ins    []api.RIns
	isRaw  []bool // of RMove, RSpill, RFill: what they move is a raw number
	starts []int  // of each instruction, where what becomes of it begins
	slots  int
	busy   uint64 // the registers that hold something ahead of the instruction that is being written
}

// rewritten is the code by the homes that were found.
func (a *assigner) rewritten() api.Code {
	w := &writer{assigner: a}
	w.enter()
	for i, in := range a.Ins {
		w.starts = append(w.starts, len(w.ins))
		w.busy = a.taken[i]
		if in.Op == api.RMove {
			w.move(i)
		} else {
			w.do(i)
		}
	}
	for i := range w.ins {
		if to := rcode.Place(&w.ins[i]); to != nil {
			*to = w.starts[*to]
		}
	}
	w.turnExits()
	c := a.Code
	c.Ins, c.Regs, c.Slots = w.ins, a.n, max(c.Slots, w.slots)
	c.Maps = w.maps(c)
	return c
}

func (w *writer) put(in api.RIns, isRaw bool) {
	w.ins = append(w.ins, in)
	w.isRaw = append(w.isRaw, isRaw)
}

// do writes an instruction that is no RMove.
func (w *writer) do(i int) {
	in := w.Ins[i]
	w.gather(&in)
	if !rcode.Writes(in.Op) {
		w.put(in, false)
		return
	}
	t := thing(in.A, putKind(in.Op))
	k := &w.known[t]
	if k.kind == inRegister {
		in.A = k.n
		w.put(in, false)
		return
	}
	in.A = w.spareOf(w.taken[i+1])
	w.put(in, false)
	if w.isRead(t) {
		w.spill(in.A, t)
	}
}

// gather lets what an instruction reads stand in registers.
func (w *writer) gather(in *api.RIns) {
	first, n := rowOf(*in)
	if n > 0 {
		at := w.n - n
		for k := range n {
			w.load(at+k, thing(first+k, aValue))
		}
		*rowField(in) = at
		return
	}
	for _, field := range rcode.Operands(in) {
		*field = w.fetch(thing(*field, readKind(in.Op)))
	}
	switch {
	case in.Op == api.RPrim && in.D == 1:
		in.C = w.fetch(thing(in.C, aValue))
	case in.Op == api.RPrim:
		in.C = 0
	}
}

// rowField is the field that names the first register of a row.
func rowField(in *api.RIns) *int {
	if in.Op == api.RTail {
		return &in.A
	}
	return &in.C
}

// fetch is a register in which a thing stands.
func (w *writer) fetch(t int) int {
	if k := w.known[t]; k.kind == inRegister {
		return k.n
	}
	r := w.spareOf(w.busy)
	w.busy |= 1 << r
	w.load(r, t)
	return r
}

// spareOf is a register that is none of some.
func (w *writer) spareOf(taken uint64) int { return bits.TrailingZeros64(^taken) }

// load puts a thing into a register, if it does not stand there.
func (w *writer) load(r, t int) {
	k := w.known[t]
	switch {
	case k.kind != inRegister:
		w.put(api.RIns{Op: api.RFill, A: r, B: w.slotOf(t)}, kindOf(t) == aRaw)
	case k.n != r:
		w.put(api.RIns{Op: api.RMove, A: r, B: k.n}, kindOf(t) == aRaw)
	}
}

func (w *writer) spill(r, t int) {
	w.put(api.RIns{Op: api.RSpill, A: r, B: w.slotOf(t)}, kindOf(t) == aRaw)
}

// slotOf is a thing's slot. Both things of a register have one, unless one of them may be moved while the other one is there.
func (w *writer) slotOf(t int) int {
	k, other := &w.known[t], w.known[t^1]
	switch {
	case k.kind == inSlot:
	case other.kind == inSlot && !k.isMixed:
		k.place = other.place
	default:
		k.place = place{inSlot, w.slots}
		w.slots++
	}
	return k.n
}

// move writes an RMove: it moves all things that may be there.
func (w *writer) move(i int) {
	in := w.Ins[i]
	for _, kind := range [...]int{aValue, aRaw} {
		if w.moved[i]&kind == 0 || in.A == in.B {
			continue
		}
		from, to := thing(in.B, kind), thing(in.A, kind)
		if k := w.known[to]; k.kind == inRegister {
			w.load(k.n, from)
		} else if w.isRead(to) {
			w.spill(w.fetch(from), to)
		}
	}
}

// turnExits lets exits find things at their homes.
func (w *writer) turnExits() {
	for _, e := range w.Exits {
		for i := range e.Frames {
			f := &e.Frames[i]
			w.turn(&f.Self)
			for k := range f.Slots {
				w.turn(&f.Slots[k])
			}
		}
	}
}

func (w *writer) turn(l *api.Loc) {
	if l.Kind != api.InReg && l.Kind != api.InRaw {
		return
	}
	t := thing(l.N, locKind(*l))
	switch k := w.known[t]; {
	case !w.isRead(t): // nobody goes to that exit
		l.N = 0
	case k.kind == inRegister:
		l.N = k.n
	case l.Kind == api.InRaw:
		*l = api.Loc{Kind: api.RawSlot, N: w.slotOf(t)}
	default:
		*l = api.Loc{Kind: api.InSlot, N: w.slotOf(t)}
	}
}

// maps are, for each instruction, the registers that hold values that are still wanted.
func (w *writer) maps(c api.Code) [][]int {
	values := func(i int) []int {
		if w.isRaw[i] || readKind(c.Ins[i].Op) == aRaw {
			return nil
		}
		return rcode.Read(c.Ins[i])
	}
	l := lookoutOf(c, c.Regs, values, valuesOf)
	return l.lists(func(i, register int) bool { return writes(c.Ins[i], register) })
}

// valuesOf are the registers in which an exit finds values, each once.
func valuesOf(e api.Exit) []int {
	var all []int
	for _, t := range readBy(e) {
		if kindOf(t) == aValue {
			all = append(all, t/2)
		}
	}
	return all
}
