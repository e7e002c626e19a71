package heap

// move copies objects from one half to the other. Where an object was copied, a pointer to its copy stands in the place of its header, so that it is not copied again.
type move struct {
	from, to *half
}

// all makes the half that is copied to hold what can be reached from the roots, and nothing else, and answers the roots as they are there. The other half is of no more use then.
func (m move) all(roots []uint64) []uint64 {
	m.to.empty()
	moved := make([]uint64, len(roots))
	for i, w := range roots {
		moved[i] = m.word(w)
	}
	// Copies that are yet to be gone through stand in order behind this one, so that no other list of what is left to do is needed.
	for place := 1; place < len(m.to.words); {
		head := header(m.to.words[place])
		m.fields(place+1, head.tagged())
		place += head.words()
	}
	return moved
}

// fields makes tagged fields, from a place on, point to copies.
func (m move) fields(first, count int) {
	for place := first; place < first+count; place++ {
		// The words may be elsewhere behind the copying, so that it stands on a line of its own.
		w := m.word(m.to.words[place])
		m.to.words[place] = w
	}
}

// word is a pointer to the copy of w's object, which is made where there is none yet; any other word is itself.
func (m move) word(w uint64) uint64 {
	place, ok := m.from.place(w)
	if !ok {
		return w
	}
	first := m.from.words[place]
	if first&tagMask == pointerTag {
		return first
	}
	end := place + header(first).words()
	copied := m.to.layCopy(m.from.words[place:end])
	m.from.words[place] = copied
	return copied
}
