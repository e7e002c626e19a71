package base

import (
	"slices"

	"tandem/api"
)

// leastToApply is how many arguments apply takes at least.
const leastToApply = 2

// apply calls its first argument with the others. Where that is apply again, no instruction is done between, and nothing on the heap turns: arguments that it has had already will come again for ever, and no fuel would end that.
func (m *Machine) apply() {
	self := m.callee
	var had round
	for m.spread() && m.callee == self && len(m.args) >= leastToApply && len(m.args) <= mostArgs {
		if had.closes(m.args) {
			m.end(api.Bound)
			return
		}
	}
}

// spread makes the first argument what is called, and the items of the last one, a list, arguments like those between; false, if that may not be. Of a list that is longer than any call allows it takes no more than tell so.
func (m *Machine) spread() bool {
	last := len(m.args) - 1
	all, list := m.args, m.args[last]
	for ; m.Kind(list) == pairKind && len(all) <= 2*mostArgs; list = m.field(list, cdrField) {
		all = append(all, m.field(list, carField))
	}
	if list != emptyList && !m.is("list?", list) {
		m.wrong(typeClass, "apply")
		return false
	}
	m.callee, m.args, m.turn = all[0], slices.Delete(all[1:], last-1, last), calling
	return true
}

// round watches argument lists that follow from each other for one that was there before. It holds on to one of them alone, and to a later one whenever twice as many have gone by: so any round is found, however late it begins and however long it is, without all of them being kept.
type round struct {
	held        []uint64
	gone, until int
}

// closes tells whether these arguments were there before.
func (r *round) closes(args []uint64) bool {
	if len(args) == len(r.held) && args[len(args)-1] == r.held[len(args)-1] && slices.Equal(r.held, args) {
		return true
	}
	if r.gone == r.until {
		r.held = append(r.held[:0], args...)
		r.gone, r.until = 0, 2*r.until+1
	}
	r.gone++
	return false
}
