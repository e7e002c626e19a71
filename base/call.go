package base

import (
	"slices"

	"tandem/api"
	"tandem/prim"
)

// mostArgs is how many arguments any call may have: apply hands in more than an instruction could.
const mostArgs = api.MaxArgs * 16

// What is to be done ahead of the next instruction.
const (
	nothing   = iota
	calling   // callee is called with args
	answering // value is what the innermost frame waits for
	raising   // value is raised
	asking    // value is raised, and what its handler returns is the answer
)

// pending is what is to be done ahead of the next instruction, and the words that it is about.
type pending struct {
	turn   int
	callee uint64
	args   []uint64
	value  uint64
}

func (p *pending) eachRoot(visit func(w *uint64)) {
	visit(&p.callee)
	for i := range p.args {
		visit(&p.args[i])
	}
	visit(&p.value)
}

// settle does what is to be done, till there is an instruction to go on with.
func (m *Machine) settle() {
	for m.turn != nothing && m.goesOn() {
		turn := m.turn
		m.turn = nothing
		switch turn {
		case calling:
			m.enter()
		case answering:
			m.resume()
		case raising:
			m.handle(handlerReturns)
		case asking:
			m.handle(handlersBack)
		}
	}
}

// answer makes w the answer. The call that it answers is over: what it was about is kept no longer.
func (m *Machine) answer(w uint64) {
	m.forget()
	m.value, m.turn = w, answering
}

// ask calls a procedure.
func (m *Machine) ask(callee uint64, args ...uint64) {
	m.callee, m.args, m.turn = callee, append(m.args[:0], args...), calling
}

// forget holds on no longer to what was called, and with what.
func (m *Machine) forget() {
	m.callee, m.args = voidWord, m.args[:0]
}

// spent is the value that is on its way, which has come to where it goes.
func (m *Machine) spent() uint64 {
	w := m.value
	m.value = voidWord
	return w
}

// hand pops arguments.
func (m *Machine) hand(n int) {
	first := len(m.slots) - n
	m.args = append(m.args[:0], m.slots[first:]...)
	m.slots = m.slots[:first]
}

func (m *Machine) call(in api.Ins) {
	m.hand(in.A)
	m.callee, m.turn = m.pop(), calling
}

func (m *Machine) tail(in api.Ins) {
	m.call(in)
	m.leave()
}

func (m *Machine) giveBack(api.Ins) {
	w := m.pop()
	m.leave()
	m.answer(w)
}

func (m *Machine) primitive(in api.Ins) {
	m.hand(in.B)
	m.doPrimitive(in.A)
}

// enter calls what is to be called, by what it is.
func (m *Machine) enter() {
	code, isClosure := m.codeOf(m.callee)
	n, isPrimitive := primitiveNumber(m.callee)
	switch {
	case len(m.args) > mostArgs:
		m.end(api.Bound)
	case isClosure:
		m.enterClosure(code)
	case isPrimitive && prim.Control(n):
		m.enterControl(n)
	case isPrimitive:
		m.doPrimitive(n)
	case m.Kind(m.callee) == continuationKind:
		m.enterContinuation()
	default:
		m.args = slices.Insert(m.args, 0, m.callee)
		m.wrong("apply", "call")
	}
}

// codeOf is the number of a closure's code, and true; false of another word.
func (m *Machine) codeOf(w uint64) (int, bool) {
	code, ok := m.Raw(w, 0)
	if !ok || m.Kind(w) != closureKind || code >= uint64(len(m.protos)) {
		return 0, false
	}
	return int(code), true
}

func (m *Machine) enterClosure(code int) {
	p := &m.protos[code]
	if len(m.args) < p.args || len(m.args) > p.args && !p.rest {
		m.wrong(arityClass, p.name)
		return
	}
	if p.rest && !m.gather(p.args) {
		return
	}
	m.begin(code, m.callee, m.args...)
	m.forget()
}

// gather makes the arguments from that one on a list, the last argument; false, if there is no room.
func (m *Machine) gather(first int) bool {
	if !m.room(pairWords * (len(m.args) - first)) {
		return false
	}
	list, _ := m.List(m.args[first:]...)
	m.args = append(m.args[:first], list)
	return true
}

// doPrimitive does a primitive that is no control primitive.
func (m *Machine) doPrimitive(n int) {
	w, out, how := prim.Do(m.Store, n, m.args...)
	if how == api.Room {
		m.collect()
		w, out, how = prim.Do(m.Store, n, m.args...)
	}
	switch how {
	case api.Done:
		m.putOut(out)
		m.answer(w)
	case api.Wrong:
		m.raise(w)
	case api.Room:
		m.end(api.Memory)
	default:
		m.end(api.Bound)
	}
}

// resume hands the answer to the innermost frame. Without any the program's first one has returned.
func (m *Machine) resume() {
	if len(m.frames) == 0 && !m.fetch() {
		m.finish(api.Value)
		return
	}
	if goOn, ok := m.waits[m.top().code]; ok {
		goOn()
		return
	}
	m.push(m.spent())
}
