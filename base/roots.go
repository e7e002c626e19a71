package base

import "tandem/api"

// Roots are all tagged words that the machine holds.
func (m *Machine) Roots() []uint64 {
	var all []uint64
	m.eachRoot(func(w *uint64) { all = append(all, *w) })
	return all
}

// eachRoot visits where the machine holds tagged words, always in the same order.
func (m *Machine) eachRoot(visit func(w *uint64)) {
	m.stack.eachRoot(visit)
	m.pending.eachRoot(visit)
	m.program.eachRoot(visit)
	visit(&m.handlers)
	visit(&m.winds)
}

// collect makes a collection: what the machine holds is kept, and where it lies then is held.
func (m *Machine) collect() {
	kept := m.Keep(m.Roots()...)
	m.eachRoot(func(w *uint64) {
		*w = kept[0]
		kept = kept[1:]
	})
}

// room tells whether there are so many words, if need be behind a collection; without them the run ends.
func (m *Machine) room(words int) bool {
	if m.Size()-m.Used() < words {
		m.collect()
	}
	if m.Size()-m.Used() < words {
		m.end(api.Memory)
		return false
	}
	return true
}

// lay is what a maker lays that is refused for want of room alone, if need be behind a collection; without room the run ends.
func (m *Machine) lay(maker func() (uint64, bool)) (uint64, bool) {
	w, ok := maker()
	if !ok {
		m.collect()
		w, ok = maker()
	}
	if !ok {
		m.end(api.Memory)
	}
	return w, ok
}
