package ir_test

import (
	"tandem/api"
	"tandem/prim"
	"tandem/value"
)

// What a register or a slot holds.
const (
	nothing = iota
	aValue
	aRaw
)

type cell struct {
	kind int
	w    uint64
	n    int64
}

// running is register code that runs in the place of a frame. Whatever right code never does breaks the run.
type running struct {
	*machine
	api.Code
	self       uint64
	regs, rows []cell // registers, slots
	idle       bool   // there was a jump back, and nothing but jumps since
}

// enterCode lets the innermost frame run by register code, if there is such of its place.
func (m *machine) enterCode(proto, entry int) bool {
	c, ok := m.codes[[2]int{proto, entry}]
	if !ok {
		return false
	}
	m.entered++
	f := *m.top()
	m.frames = m.frames[:len(m.frames)-1]
	r := &running{machine: m, Code: c, self: f.self, regs: make([]cell, c.Regs), rows: make([]cell, c.Slots)}
	for i, w := range f.slots {
		r.regs[i] = cell{kind: aValue, w: w}
	}
	for at := 0; at >= 0; {
		if m.done++; m.done > m.limits.Fuel {
			m.end(api.Fuel)
		}
		at = r.step(at)
	}
	return true
}

func (r *running) value(n int) uint64 {
	if r.regs[n].kind != aValue {
		r.breaks("no value is read")
	}
	return r.regs[n].w
}

func (r *running) raw(n int) int64 {
	if r.regs[n].kind != aRaw {
		r.breaks("no raw number is read")
	}
	return r.regs[n].n
}

func (r *running) set(n int, w uint64) { r.regs[n] = cell{kind: aValue, w: w} }

func (r *running) setRaw(n int, v int64) { r.regs[n] = cell{kind: aRaw, n: v} }

func (r *running) setBool(n int, is bool) {
	r.set(n, map[bool]uint64{false: 2, true: 6}[is])
}

// step does an instruction, and tells which one is next; -1, if the code has come to its end.
func (r *running) step(at int) int {
	in := r.Ins[at]
	switch in.Op {
	case api.RJump:
		if in.A <= at && r.idle {
			r.breaks("nothing is done between two jumps back")
		}
		r.idle = r.idle || in.A <= at
		return in.A
	case api.RIf:
		if r.value(in.A) == 2 {
			at = in.B - 1
		}
	case api.RReturn:
		r.give(r.value(in.A))
		return -1
	case api.RTail:
		var all []uint64
		for i := range in.B + 1 {
			all = append(all, r.value(in.A+i))
		}
		r.call(all[0], all[1:]...)
		return -1
	case api.RExit:
		r.leave(in.E)
		return -1
	default:
		if !r.plain(in) && !r.guarded(in) {
			r.leave(in.E)
			return -1
		}
	}
	r.idle = false
	return at + 1
}

// plain does an instruction that has no exit; false, if it is none of these.
func (r *running) plain(in api.RIns) bool {
	switch in.Op {
	case api.RConst:
		if in.C > 0 {
			r.set(in.A, r.constant(in.C-1, in.B))
		} else {
			r.set(in.A, r.lay(r.Consts[in.B]))
		}
	case api.RRaw:
		r.setRaw(in.A, r.Raws[in.B])
	case api.RMove:
		if r.regs[in.B].kind == nothing {
			r.breaks("nothing is moved")
		}
		r.regs[in.A] = r.regs[in.B]
	case api.RFree:
		r.set(in.A, r.valueOf(r.self, in.B))
	case api.RFreeOf:
		r.set(in.A, r.valueOf(r.value(in.B), in.C))
	case api.RBox:
		w, ok := value.Fix(r.raw(in.B))
		if !ok {
			r.breaks("a raw number is no fixnum")
		}
		r.set(in.A, w)
	case api.RLess:
		r.setBool(in.A, r.raw(in.B) < r.raw(in.C))
	case api.RSame:
		r.setBool(in.A, r.raw(in.B) == r.raw(in.C))
	case api.RNew:
		r.set(in.A, r.newBox(r.value(in.B)))
	case api.RSave:
		if r.Kind(r.value(in.A)) != 7 {
			r.breaks("what is saved to is no box")
		}
		r.Set(r.value(in.A), 0, r.value(in.B))
	default:
		return false
	}
	return true
}

// valueOf is a closure's value.
func (r *running) valueOf(closure uint64, n int) uint64 {
	w, ok := r.Get(closure, n)
	if !ok || r.Kind(closure) != 6 {
		r.breaks("no closure's value is read")
	}
	return w
}

// guarded does an instruction that may go to its exit; false, if it does.
func (r *running) guarded(in api.RIns) bool {
	before := r.regs[in.A]
	if r.fails != nil && r.fails() || !r.holds(in) {
		r.regs[in.A] = before
		r.failed++
		return false
	}
	return true
}

func (r *running) holds(in api.RIns) bool {
	switch in.Op {
	case api.RGlobal:
		w, ok := r.globals[r.Names[in.B]]
		r.set(in.A, w)
		return ok
	case api.RSetGlo:
		w := r.value(in.A)
		if _, ok := r.globals[r.Names[in.B]]; !ok {
			return false
		}
		r.globals[r.Names[in.B]] = w
		return true
	case api.RUnbox:
		n, ok := value.Int(r.value(in.B))
		r.setRaw(in.A, n)
		return ok
	case api.RCar, api.RCdr:
		pair := r.value(in.B)
		w, _ := r.Get(pair, map[int]int{api.RCar: 0, api.RCdr: 1}[in.Op])
		r.set(in.A, w)
		return r.Kind(pair) == 1
	case api.RIs:
		return r.codeOf(r.value(in.A)) == in.B
	case api.RLoad:
		box := r.value(in.B)
		w, ok := r.Get(box, 0)
		r.set(in.A, w)
		return ok && r.Kind(box) == 7 && w != 18
	case api.RPrim:
		return r.primitive(in)
	}
	n := r.result(in)
	r.setRaw(in.A, n)
	_, ok := value.Fix(n)
	return ok
}

// result is what an instruction comes to that works with raw numbers; 2^61, if that is beyond int64.
func (r *running) result(in api.RIns) int64 {
	b, c := r.raw(in.B), r.raw(in.C)
	switch in.Op {
	case api.RAdd:
		return b + c
	case api.RSub:
		return b - c
	case api.RMul:
		if n := b * c; b == 0 || n/b == c {
			return n
		}
		return 1 << 61
	}
	r.breaks("no instruction")
	return 0
}

func (r *running) primitive(in api.RIns) bool {
	var args []uint64
	for i := range in.D {
		args = append(args, r.value(in.C+i))
	}
	w, out, how := prim.Do(r.Store, in.B, args...)
	switch how {
	case api.Done:
		r.putOut(out)
		r.set(in.A, w)
	case api.Wrong:
		return false
	default:
		r.endFor(how)
	}
	return true
}

// leave makes the frames of an exit.
func (r *running) leave(exit int) {
	for _, f := range r.Exits[exit].Frames {
		to := frame{proto: f.Proto, pc: f.Pc, self: r.at(f.Self)}
		for _, l := range f.Slots {
			to.slots = append(to.slots, r.at(l))
		}
		r.frames = append(r.frames, to)
	}
	r.top().left = true
}

func (r *running) at(l api.Loc) uint64 {
	switch l.Kind {
	case api.InReg:
		return r.value(l.N)
	case api.InRaw:
		w, _ := value.Fix(r.raw(l.N))
		return w
	case api.InConst:
		return r.lay(r.Consts[l.N])
	case api.InSelf:
		return r.self
	}
	r.breaks("slots are wanted of code that has none")
	return 0
}
