package base

import (
	"tandem/api"
	"tandem/show"
)

// end ends the run, unless something ended it ahead of this.
func (m *Machine) end(how int) {
	if m.goesOn() {
		m.outcome.How = how
	}
}

// finish ends the run with the value that is on its way.
func (m *Machine) finish(how int) {
	d, ok := m.Take(m.value, api.MaxSteps)
	if !ok {
		m.end(api.Bound)
		return
	}
	m.end(how)
	m.outcome.Text = show.Write(d)
}

// putOut lets bytes go out, as many as may.
func (m *Machine) putOut(b []byte) {
	room := m.output - len(m.out)
	if len(b) > room {
		b = b[:room]
		m.end(api.Bound)
	}
	m.out = append(m.out, b...)
}
