package match

import "tandem/api"

// matcher holds a form against a pattern's shape.
type matcher struct {
	cursors []cursor    // one for each variable
	bound   []*api.Bind // those that stand for a datum
}

func (m *matcher) meets(s *shape, form api.Datum) bool {
	switch s.role {
	case anything:
		return true
	case variable:
		m.bind(&m.cursors[s.first], form)
		return true
	case row:
		return m.meetsRow(s, form)
	}
	return alike(s.pattern, form)
}

func (m *matcher) bind(c *cursor, form api.Datum) {
	c.D = form
	m.bound = append(m.bound, c.Bind)
}

// renew lays what the variables stand for in new memory. That is left to the end, as a form that does not match need not be copied.
func (m *matcher) renew() {
	for _, b := range m.bound {
		b.D = copied(b.D)
	}
}

func (m *matcher) meetsRow(s *shape, form api.Datum) bool {
	if form.Kind != s.pattern.Kind {
		return false
	}
	left := form.Items
	over := len(left) - len(s.parts)
	if over < -1 || over == -1 && s.many == none {
		return false
	}
	for i := range s.parts {
		n, meet := 1, m.meetsOne
		if i == s.many {
			n, meet = over+1, m.meetsEach
		}
		if !meet(&s.parts[i], left[:n]) {
			return false
		}
		left = left[n:]
	}
	return m.meetsRest(s, left, restOf(form))
}

func (m *matcher) meetsOne(s *shape, forms []api.Datum) bool { return m.meets(s, forms[0]) }

// meetsEach holds the forms that an ellipsis stands for against its part.
func (m *matcher) meetsEach(s *shape, forms []api.Datum) bool {
	cursors := m.cursors[s.first:s.end]
	for i := range cursors {
		cursors[i].spread(len(forms))
	}
	for turn, form := range forms {
		for i := range cursors {
			cursors[i].enter(turn)
		}
		if !m.meets(s, form) {
			return false
		}
		for i := range cursors {
			cursors[i].leave()
		}
	}
	return true
}

// meetsRest holds what is left of a form's list behind the items against the Rest of a pattern.
func (m *matcher) meetsRest(s *shape, items, rest []api.Datum) bool {
	switch {
	case s.rest == nil:
		return len(items) == 0 && len(rest) == 0
	case len(items) == 0 && len(rest) > 0:
		return m.meets(s.rest, rest[0])
	}
	return m.meets(s.rest, api.Datum{Kind: api.List, Items: items, Rest: rest})
}
