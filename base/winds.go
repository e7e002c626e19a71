package base

// Fields of a wind. Its raw field tells how many winds there are with it.
const (
	beforeField   = 0
	afterField    = 1
	handlersField = 2
	outerField    = 3
	windFields    = 4
)

// dynamicWind lays its wind ahead of calling the before: whenever that returns, it is the same wind that is put there.
func (m *Machine) dynamicWind() {
	if !m.room(ownWords + windFields) {
		return
	}
	before, thunk, after := m.args[0], m.args[1], m.args[2]
	wind := m.layOwn(windKind, m.windsFrom(m.winds)+1, before, after, m.handlers, m.winds)
	m.begin(beforeReturns, voidWord, wind, thunk)
	m.ask(before)
}

// windsFrom is how many winds there are from that one outwards.
func (m *Machine) windsFrom(wind uint64) uint64 {
	if wind == emptyList {
		return 0
	}
	return m.raw(wind)
}

func (m *Machine) afterBefore() {
	m.spent()
	wind, thunk := *m.slot(0), *m.slot(1)
	m.leave()
	m.begin(thunkReturns, voidWord, wind)
	m.winds = wind
	m.ask(thunk)
}

func (m *Machine) afterThunk() {
	wind := *m.slot(0)
	m.leave()
	m.begin(afterReturns, voidWord, m.spent())
	m.winds = m.field(wind, outerField)
	m.ask(m.field(wind, afterField))
}

func (m *Machine) afterAfter() {
	w := *m.slot(0)
	m.leave()
	m.answer(w)
}

// meet is the innermost wind that is there from both of these outwards, or the empty list.
func (m *Machine) meet(a, b uint64) uint64 {
	for a != b {
		if m.windsFrom(a) < m.windsFrom(b) {
			a, b = b, a
		}
		a = m.field(a, outerField)
	}
	return a
}

// callAt calls a wind's before or after, with the winds outside of it and its handlers.
func (m *Machine) callAt(wind uint64, field int) {
	m.winds, m.handlers = m.field(wind, outerField), m.field(wind, handlersField)
	m.ask(m.field(wind, field))
}
