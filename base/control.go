package base

import (
	"tandem/api"
	"tandem/prim"
)

// control is a control primitive, and what it does with the arguments at hand, of which there are as many as it takes.
type control struct {
	api.Prim
	do func()
}

// controlPrimitives are the control primitives by their numbers.
func (m *Machine) controlPrimitives() map[int]control {
	deeds := map[string]func(){
		"apply":                  m.apply,
		"call/cc":                m.callWithContinuation,
		"dynamic-wind":           m.dynamicWind,
		"with-exception-handler": m.withHandler,
		"raise":                  m.raiseIt,
		"raise-continuable":      m.raiseContinuable,
		"error":                  m.raiseError,
	}
	all := map[int]control{}
	for name, do := range deeds {
		n := prim.Number(name)
		p, _ := prim.Get(n)
		all[n] = control{p, do}
	}
	return all
}

// What the machine waits for in frames of its own: these stand in the place of a proto's number.
const (
	handlersBack   = -1 - iota // what is called with other handlers
	handlerReturns             // a handler that may not return
	beforeReturns              // the before of a dynamic-wind
	thunkReturns               // what a dynamic-wind stands around
	afterReturns               // the after of a dynamic-wind
	windReturns                // a before or an after on the way to a continuation
)

// waitings are how the machine goes on with the answer that it has waited for.
func (m *Machine) waitings() map[int]func() {
	return map[int]func(){
		handlersBack:   m.putHandlersBack,
		handlerReturns: m.afterHandler,
		beforeReturns:  m.afterBefore,
		thunkReturns:   m.afterThunk,
		afterReturns:   m.afterAfter,
		windReturns:    m.travel,
	}
}

func (m *Machine) enterControl(n int) {
	c := m.controls[n]
	if !c.takes(len(m.args)) {
		m.wrong(arityClass, c.Name)
		return
	}
	c.do()
}

// takes tells whether it takes so many arguments.
func (c control) takes(n int) bool { return n >= c.Least && (c.Most < 0 || n <= c.Most) }

// is asks a primitive that lays nothing and takes any one value whether it is so of w.
func (m *Machine) is(predicate string, w uint64) bool {
	yes, _, _ := prim.Do(m.Store, prim.Number(predicate), w)
	return yes == trueWord
}

func (m *Machine) withHandler() {
	if !m.is("procedure?", m.args[0]) {
		m.wrong(typeClass, "with-exception-handler")
		return
	}
	if !m.room(pairWords) {
		return
	}
	m.begin(handlersBack, voidWord, m.handlers)
	m.handlers, _ = m.Cons(m.args[0], m.handlers)
	m.ask(m.args[1])
}

func (m *Machine) raiseIt() { m.raise(m.args[0]) }

func (m *Machine) raiseContinuable() {
	m.raise(m.args[0])
	m.turn = asking
}

// raiseError raises a condition whose message may be any value, which Condition knows nothing of: it is set into one with an empty text.
func (m *Machine) raiseError() {
	w, ok := m.lay(func() (uint64, bool) { return prim.Condition(m.Store, "user", "", m.args[1:]...) })
	if ok {
		m.Set(w, messageField, m.args[0])
		m.raise(w)
	}
}
