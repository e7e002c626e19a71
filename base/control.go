package base

import "tandem/prim"

// controlPrimitives are what the control primitives do with the arguments at hand, of which there are as many as they take.
func (m *Machine) controlPrimitives() map[int]func() {
	return map[int]func(){
		prim.Number("apply"):                  m.apply,
		prim.Number("call/cc"):                m.callWithContinuation,
		prim.Number("dynamic-wind"):           m.dynamicWind,
		prim.Number("with-exception-handler"): m.withHandler,
		prim.Number("raise"):                  m.raiseIt,
		prim.Number("raise-continuable"):      m.raiseContinuable,
		prim.Number("error"):                  m.raiseError,
	}
}

// What the machine waits for in frames of its own: these stand in the place of a proto's number.
const (
	handlersBack   = -1 - iota // what is called with other handlers
	handlerReturns             // a handler that may not return
	beforeReturns              // the before of a dynamic-wind
	thunkReturns               // what a dynamic-wind stands around
	afterReturns               // the after of a dynamic-wind
	windReturns                // a before or an after on the way to a continuation
)

// waitings are how the machine goes on with the answer that it has waited for.
func (m *Machine) waitings() map[int]func() {
	return map[int]func(){
		handlersBack:   m.putHandlersBack,
		handlerReturns: m.afterHandler,
		beforeReturns:  m.afterBefore,
		thunkReturns:   m.afterThunk,
		afterReturns:   m.afterAfter,
		windReturns:    m.travel,
	}
}

func (m *Machine) enterControl(n int) {
	p, _ := prim.Get(n)
	if len(m.args) < p.Least || p.Most >= 0 && len(m.args) > p.Most {
		m.wrong(arityClass, p.Name)
		return
	}
	m.controls[n]()
}

// is asks a primitive that lays nothing and takes any one value whether it is so of w.
func (m *Machine) is(predicate string, w uint64) bool {
	yes, _, _ := prim.Do(m.Store, prim.Number(predicate), w)
	return yes == trueWord
}

// apply hands the items of its last argument on, one by one.
func (m *Machine) apply() {
	last := len(m.args) - 1
	list := m.args[last]
	if !m.is("list?", list) {
		m.wrong(typeClass, "apply")
		return
	}
	args := append([]uint64{}, m.args[1:last]...)
	for ; list != emptyList; list = m.field(list, cdrField) {
		args = append(args, m.field(list, carField))
	}
	m.ask(m.args[0], args...)
}

func (m *Machine) withHandler() {
	if !m.is("procedure?", m.args[0]) {
		m.wrong(typeClass, "with-exception-handler")
		return
	}
	if !m.room(pairWords) {
		return
	}
	m.begin(handlersBack, voidWord, m.handlers)
	m.handlers, _ = m.Cons(m.args[0], m.handlers)
	m.ask(m.args[1])
}

func (m *Machine) raiseIt() { m.raise(m.args[0]) }

func (m *Machine) raiseContinuable() {
	m.raise(m.args[0])
	m.turn = asking
}

// raiseError raises a condition whose message may be any value, which Condition knows nothing of: it is set into one with an empty text.
func (m *Machine) raiseError() {
	w, ok := m.lay(func() (uint64, bool) { return prim.Condition(m.Store, "user", "", m.args[1:]...) })
	if ok {
		m.Set(w, messageField, m.args[0])
		m.raise(w)
	}
}
