package base

// Fields of a continuation. Its raw field tells how many slots its frames have.
const (
	keptHandlers       = 0
	keptWinds          = 1
	keptFrames         = 2
	continuationFields = 3
)

// Slots of the frame that is on its way to a continuation; behind them stand the winds that are still to be entered, the outermost last.
const (
	goalSlot  = 0
	valueSlot = 1
	meetSlot  = 2
	wayCount  = 3
)

// What a frame on its way to a continuation is at: this stands in the place of a pc.
const (
	leaving = iota
	entering
)

// callWithContinuation lays the frames on the heap, and calls its argument with a continuation that goes on with them.
func (m *Machine) callWithContinuation() {
	if !m.shelve(ownWords + continuationFields) {
		return
	}
	k := m.layOwn(continuationKind, uint64(m.deep), m.handlers, m.winds, m.shelf)
	m.ask(m.args[0], k)
}

// enterContinuation drops all frames: nothing will ever return to them from here.
func (m *Machine) enterContinuation() {
	if len(m.args) != 1 {
		m.wrong(arityClass, "continuation")
		return
	}
	goal, w := m.callee, m.args[0]
	m.empty()
	m.begin(windReturns, voidWord, goal, w, m.meet(m.winds, m.field(goal, keptWinds)))
	m.answer(voidWord)
}

// travel goes on by a wind on the way to a continuation.
func (m *Machine) travel() {
	m.spent()
	f := m.top()
	switch {
	case f.pc == entering:
		m.pop()
	case m.winds == *m.slot(meetSlot):
		f.pc = entering
		m.planEntries()
	default:
		m.callAt(m.winds, afterField)
		return
	}
	if len(m.slots) == f.base+wayCount {
		m.arrive()
		return
	}
	m.callAt(m.slots[len(m.slots)-1], beforeField)
}

// planEntries pushes the continuation's winds that are not there, the innermost first.
func (m *Machine) planEntries() {
	wind := m.field(*m.slot(goalSlot), keptWinds)
	for ; wind != *m.slot(meetSlot); wind = m.field(wind, outerField) {
		m.push(wind)
	}
}

// arrive makes all as it was when the continuation was made.
func (m *Machine) arrive() {
	goal, w := *m.slot(goalSlot), *m.slot(valueSlot)
	m.empty()
	m.shelf, m.deep = m.field(goal, keptFrames), int(m.raw(goal))
	m.handlers, m.winds = m.field(goal, keptHandlers), m.field(goal, keptWinds)
	m.answer(w)
}
