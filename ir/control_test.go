package ir_test

import (
	"slices"

	"tandem/api"
	"tandem/prim"
)

// What the machine of these tests does about conditions, handlers, winds and continuations.

func (m *machine) wrong(class, message string, irritants ...uint64) {
	m.raise(m.sure(prim.Condition(m.Store, class, message, irritants...)))
}

func (m *machine) raise(w uint64) {
	if len(m.handlers) == 0 {
		m.endWith(api.Raised, w)
	}
	m.withHandlers(len(m.handlers)-1, func(uint64) { m.wrong("noncontinuable", "") }, w)
}

// withHandlers calls the first handler with just so many others.
func (m *machine) withHandlers(n int, then func(w uint64), w uint64) {
	first, others := m.handlers[n], slices.Clone(m.handlers[:n])
	m.handlers = others
	m.callThen(func(w uint64) {
		m.handlers = others
		then(w)
	}, first, w)
}

func (m *machine) control(n int, args []uint64) {
	p := api.Prims()[n]
	if len(args) < p.Least || p.Most >= 0 && len(args) > p.Most {
		m.wrong("arity", p.Name, args...)
		return
	}
	old := m.handlers
	switch p.Name {
	case "apply":
		m.apply(args)
	case "call/cc":
		k := m.sure(m.Alloc(8, 0, 1))
		m.SetRaw(k, 0, uint64(len(m.states)))
		m.states = append(m.states, m.copied())
		m.call(args[0], k)
	case "dynamic-wind":
		m.dynamicWind(args[0], args[1], args[2])
	case "with-exception-handler":
		if h := args[0]; m.Kind(h) != 6 && m.Kind(h) != 8 && h&255 != 26 {
			m.wrong("type", p.Name, args...)
			return
		}
		m.handlers = append(slices.Clone(old), args[0])
		m.callThen(func(w uint64) { m.handlers = old; m.give(w) }, args[1])
	case "raise":
		m.raise(args[0])
	case "raise-continuable":
		if len(old) == 0 {
			m.endWith(api.Raised, args[0])
		}
		m.withHandlers(len(old)-1, func(w uint64) { m.handlers = old; m.give(w) }, args[0])
	case "error":
		c := m.sure(prim.Condition(m.Store, "user", "", args[1:]...))
		m.Set(c, 1, args[0])
		m.raise(c)
	}
}

func (m *machine) apply(args []uint64) {
	if m.done++; m.done > m.limits.Fuel { // apply of apply may go on without any instruction
		m.end(api.Fuel)
	}
	last := len(args) - 1
	all := slices.Clone(args[1:last])
	w := args[last]
	for n := 0; w != 10; n++ {
		if m.Kind(w) != 1 || n > api.MaxWords {
			m.wrong("type", "apply", args...)
			return
		}
		item, _ := m.Get(w, 0)
		all = append(all, item)
		w, _ = m.Get(w, 1)
	}
	m.call(args[0], all...)
}

func (m *machine) dynamicWind(before, thunk, after uint64) {
	outer := m.winds
	wind := &wind{before, after, m.handlers}
	m.callThen(func(uint64) {
		m.winds = append(slices.Clone(outer), wind)
		m.callThen(func(w uint64) {
			m.winds = outer
			m.callThen(func(uint64) { m.give(w) }, after)
		}, thunk)
	}, before)
}

// travel goes by one wind nearer to a state, till it is there.
func (m *machine) travel(to state, w uint64) {
	same := 0
	for same < min(len(m.winds), len(to.winds)) && m.winds[same] == to.winds[same] {
		same++
	}
	goOn := func(uint64) { m.travel(to, w) }
	switch n := len(m.winds); {
	case n > same:
		wind := m.winds[n-1]
		m.frames, m.winds, m.handlers = nil, slices.Clone(m.winds[:n-1]), wind.handlers
		m.callThen(goOn, wind.after)
	case n < len(to.winds):
		wind := to.winds[n]
		m.frames, m.handlers = nil, wind.handlers
		inside := append(slices.Clone(m.winds), wind)
		m.callThen(func(uint64) { m.winds = inside; goOn(14) }, wind.before)
	default:
		m.state = to.copied()
		m.give(w)
	}
}
