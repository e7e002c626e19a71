package heap

// startBits is how many places a word of starts tells of.
const startBits = 64

// half is one of the two pieces of memory, as far as words are laid in it: it grows with what it holds, lest a great heap with little in it costs its whole size.
type half struct {
	words []uint64
	// starts has a bit for each place at which an object was laid: words alone don't tell, since a raw one may look like a header.
	starts []uint64
}

// empty makes it a half in which nothing is laid but the 0 at place 0.
func (m *half) empty() {
	m.words = append(m.words[:0], 0)
	m.starts = m.starts[:0]
}

// lay puts a new object behind the others.
func (m *half) lay(head header) uint64 {
	p := m.start()
	words := append(m.words, uint64(head))
	for range head.tagged() {
		words = append(words, falseWord)
	}
	for range head.raws() {
		words = append(words, 0)
	}
	m.words = words
	return p
}

// layCopy puts an object that has these words behind the others.
func (m *half) layCopy(object []uint64) uint64 {
	p := m.start()
	m.words = append(m.words, object...)
	return p
}

// start marks the place behind the last object as one of an object, and is a pointer to it.
func (m *half) start() uint64 {
	place := len(m.words)
	for len(m.starts) <= place/startBits {
		m.starts = append(m.starts, 0)
	}
	m.starts[place/startBits] |= 1 << (place % startBits)
	return pointerTo(place)
}

// place is where the object of a pointer stands, and true; false, if it is no pointer to an object.
func (m *half) place(p uint64) (int, bool) {
	place := p >> tagBits
	if p&tagMask != pointerTag || place/startBits >= uint64(len(m.starts)) {
		return 0, false
	}
	if m.starts[place/startBits]>>(place%startBits)&1 == 0 {
		return 0, false
	}
	return int(place), true
}

// object is the place and the header of a pointer's object; 0 and 0, if there is none.
func (m *half) object(p uint64) (int, header) {
	place, ok := m.place(p)
	if !ok {
		return 0, 0
	}
	return place, header(m.words[place])
}

// taggedField is where an object's tagged field i stands; nil, if there is none.
func (m *half) taggedField(p uint64, i int) *uint64 {
	place, head := m.object(p)
	if i < 0 || i >= head.tagged() {
		return nil
	}
	return &m.words[place+1+i]
}

// rawField is where an object's raw field i stands; nil, if there is none.
func (m *half) rawField(p uint64, i int) *uint64 {
	place, head := m.object(p)
	if i < 0 || i >= head.raws() {
		return nil
	}
	return &m.words[place+1+head.tagged()+i]
}
