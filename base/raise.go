package base

import (
	"tandem/api"
	"tandem/prim"
)

// Classes of conditions that the machine raises in several places.
const (
	arityClass   = "arity"
	typeClass    = "type"
	unboundClass = "unbound"
)

// wrong raises a condition whose irritants are the arguments at hand.
func (m *Machine) wrong(class, message string) {
	w, ok := m.lay(func() (uint64, bool) { return prim.Condition(m.Store, class, message, m.args...) })
	if ok {
		m.raise(w)
	}
}

// raise makes w what is raised in the place of what was called.
func (m *Machine) raise(w uint64) {
	m.forget()
	m.value, m.turn = w, raising
}

// handle calls the first handler with what is raised, under the other handlers, and waits for it. Without any the run ends.
func (m *Machine) handle(wait int) {
	if m.handlers == emptyList {
		m.finish(api.Raised)
		return
	}
	m.begin(wait, voidWord, m.handlers)
	first := m.field(m.handlers, carField)
	m.handlers = m.field(m.handlers, cdrField)
	m.ask(first, m.spent())
}

// afterHandler raises once more, under the other handlers: the handler has returned where it may not.
func (m *Machine) afterHandler() {
	m.spent()
	m.handlers = m.field(*m.slot(0), cdrField)
	m.leave()
	m.wrong("noncontinuable", "")
}

// putHandlersBack passes the answer on, with the handlers as they were.
func (m *Machine) putHandlersBack() {
	m.handlers = *m.slot(0)
	m.leave()
	m.answer(m.value)
}
