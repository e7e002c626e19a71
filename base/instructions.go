package base

import "tandem/api"

// instructions are what the instructions do.
func (m *Machine) instructions() map[int]func(in api.Ins) {
	return map[int]func(in api.Ins){
		api.OpConst:   m.constant,
		api.OpLocal:   m.local,
		api.OpFree:    m.free,
		api.OpGlobal:  m.global,
		api.OpSetGlo:  m.setGlobal,
		api.OpDefine:  m.define,
		api.OpBox:     m.box,
		api.OpUnbox:   m.unbox,
		api.OpSetBox:  m.setBox,
		api.OpClosure: m.closure,
		api.OpCall:    m.call,
		api.OpTail:    m.tail,
		api.OpReturn:  m.giveBack,
		api.OpJump:    m.jump,
		api.OpFalse:   m.jumpIfFalse,
		api.OpPrim:    m.primitive,
		api.OpPop:     m.drop,
		api.OpSlide:   m.slide,
		api.OpStore:   m.store,
		api.OpLoop:    m.loop,
		api.OpPick:    m.local,
	}
}

func (m *Machine) local(in api.Ins) { m.push(*m.slot(in.A)) }

func (m *Machine) free(in api.Ins) { m.push(m.field(m.top().self, in.A)) }

// named is the global that an instruction names.
func (m *Machine) named(in api.Ins) *global {
	return &m.globals[m.protos[m.top().code].globals[in.A]]
}

func (m *Machine) global(in api.Ins) {
	g := m.named(in)
	if !g.defined {
		m.wrong(unboundClass, g.name)
		return
	}
	m.push(g.word)
}

func (m *Machine) setGlobal(in api.Ins) {
	g, w := m.named(in), m.pop()
	if !g.defined {
		m.wrong(unboundClass, g.name)
		return
	}
	g.word = w
	m.push(voidWord)
}

func (m *Machine) define(in api.Ins) {
	g := m.named(in)
	g.word, g.defined = m.pop(), true
	m.push(voidWord)
}

func (m *Machine) box(api.Ins) {
	if !m.room(boxWords) {
		return
	}
	p, _ := m.Alloc(boxKind, 1, 0)
	m.Set(p, 0, m.pop())
	m.push(p)
}

func (m *Machine) unbox(api.Ins) {
	box := m.pop()
	w, ok := m.Get(box, 0)
	switch {
	case !ok || m.Kind(box) != boxKind:
		m.end(api.Bound)
	case w == undefinedWord:
		m.wrong("unassigned", "")
	default:
		m.push(w)
	}
}

func (m *Machine) setBox(api.Ins) {
	w, box := m.pop(), m.pop()
	if m.Kind(box) != boxKind || !m.Set(box, 0, w) {
		m.end(api.Bound)
		return
	}
	m.push(voidWord)
}

func (m *Machine) closure(in api.Ins) {
	if !m.room(ownWords + in.B) {
		return
	}
	first := len(m.slots) - in.B
	p := m.layOwn(closureKind, uint64(in.A), m.slots[first:]...)
	m.slots = m.slots[:first]
	m.push(p)
}

func (m *Machine) jump(in api.Ins) { m.top().pc = in.A }

func (m *Machine) jumpIfFalse(in api.Ins) {
	if m.pop() == falseWord {
		m.top().pc = in.A
	}
}

func (m *Machine) drop(api.Ins) { m.pop() }

func (m *Machine) slide(in api.Ins) {
	w := m.pop()
	m.slots = m.slots[:len(m.slots)-in.A]
	m.push(w)
}

func (m *Machine) store(in api.Ins) { *m.slot(in.A) = m.pop() }

// loop does nothing: it is a mark for the second tier.
func (m *Machine) loop(api.Ins) {}
