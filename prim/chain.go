package prim

// trail tells whether a chain that is gone along goes round. One of its pairs is marked, then another one twice as far on, and so on: sooner or later the mark stands on the round, and is met again before it is moved. So it needs no list of what was met.
type trail struct {
	mark  uint64
	since int // how many pairs ago it was marked
	most  int // how many pairs behind it the next one is marked
}

func trailFrom(w uint64) trail { return trail{mark: w, most: 1} }

// round is of how many pairs the round is on which the next word of the chain stands; 0, as far as is known of none.
func (t *trail) round(next uint64) int {
	t.since++
	if next == t.mark {
		return t.since
	}
	if t.since == t.most {
		*t = trail{next, 0, 2 * t.most}
	}
	return 0
}

// listLength is how many items a list has, and true; false of what is no list: its chain of pairs goes round, or ends with what is not the empty list.
func (c *call) listLength(w uint64) (int, bool) {
	count := 0
	for t := trailFrom(w); c.isPair(w); count++ {
		w = c.cdr(w)
		if t.round(w) > 0 {
			return 0, false
		}
	}
	return count, w == emptyList
}

// items are the items of a list, and true; false of what is no list.
func (c *call) items(w uint64) ([]uint64, bool) {
	count, ok := c.listLength(w)
	if !ok {
		return nil, false
	}
	items := make([]uint64, count)
	for i := range items {
		items[i] = c.car(w)
		w = c.cdr(w)
	}
	return items, true
}

// drop is what stands behind so many pairs of a chain, and true; false, if it ends ahead of that. Where it goes round, whole rounds are left out.
func (c *call) drop(w uint64, count int) (uint64, bool) {
	for t := trailFrom(w); count > 0; {
		if !c.isPair(w) {
			return 0, false
		}
		w = c.cdr(w)
		count--
		if round := t.round(w); round > 0 {
			count %= round
		}
	}
	return w, true
}
