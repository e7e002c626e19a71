package regs

import "tandem/api"

// enter writes what is done once, at the beginning: the frame's slots go to their homes, and what may be wanted though nothing was put there gets something of its kind.
func (w *writer) enter() {
	w.takeArguments()
	for t, k := range w.known {
		isThere := k.kind == inRegister || k.isMixed && w.isRead(t)
		if isThere && k.isFirst && !w.isArgument(t) {
			w.fillUp(t)
		}
	}
}

// takeArguments lets the frame's slots go to their homes. Registers that others come from are written last.
func (w *writer) takeArguments() {
	var moves, fills []api.RIns
	for r := range w.depth {
		t := thing(r, aValue)
		k := w.known[t]
		switch {
		case !k.isFirst || !w.isRead(t) || k.place == place{inRegister, r}:
		case k.kind != inRegister:
			w.spill(r, t)
		case k.n >= w.depth:
			moves = append(moves, api.RIns{Op: api.RMove, A: k.n, B: r})
		default:
			w.put(api.RIns{Op: api.RSpill, A: r, B: w.slots}, false)
			fills = append(fills, api.RIns{Op: api.RFill, A: k.n, B: w.slots})
			w.slots++
		}
	}
	for _, in := range append(moves, fills...) {
		w.put(in, false)
	}
}

// fillUp puts a constant, or a raw number, where a thing is at home.
func (w *writer) fillUp(t int) {
	k := w.known[t]
	r := k.n
	if k.kind != inRegister {
		r = w.spareOf(w.taken[0])
	}
	if kindOf(t) == aRaw {
		if len(w.Raws) == 0 {
			w.Raws = append(w.Raws, 0)
		}
		w.put(api.RIns{Op: api.RRaw, A: r}, false)
	} else {
		if len(w.Consts) == 0 {
			w.Consts = append(w.Consts, api.Datum{Kind: api.Void})
		}
		w.put(api.RIns{Op: api.RConst, A: r}, false)
	}
	if k.kind != inRegister {
		w.spill(r, t)
	}
}
