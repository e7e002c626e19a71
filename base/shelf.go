package base

// Fields of a frame on the heap; its slots stand behind them. Its raw field tells its code and its place there.
const (
	belowField = 0
	selfField  = 1
	slotsField = 2
)

// placeBits is how many bits of the raw field tell the place.
const placeBits = 32

// shelve lays all frames on the heap, with so many words of room left behind them; false, if there is no room.
func (m *Machine) shelve(spare int) bool {
	if !m.room(spare + (ownWords+slotsField)*len(m.frames) + len(m.slots)) {
		return false
	}
	shelf, deep := m.shelf, m.deep+len(m.slots)
	for i, f := range m.frames {
		fields := append([]uint64{shelf, f.self}, m.slotsOf(i)...)
		shelf = m.layOwn(frameKind, placed(f), fields...)
	}
	m.empty()
	m.shelf, m.deep = shelf, deep
	return true
}

// slotsOf are the slots of frame i.
func (s *stack) slotsOf(i int) []uint64 {
	end := len(s.slots)
	if i+1 < len(s.frames) {
		end = s.frames[i+1].base
	}
	return s.slots[s.frames[i].base:end]
}

// fetch brings the innermost frame back from the heap; false, if none is there.
func (m *Machine) fetch() bool {
	p := m.shelf
	if m.Kind(p) != frameKind {
		return false
	}
	f := placedAt(m.raw(p))
	f.base, f.self = len(m.slots), m.field(p, selfField)
	m.frames = append(m.frames, f)
	for i := slotsField; i < m.Tagged(p); i++ {
		m.slots = append(m.slots, m.field(p, i))
	}
	m.deep -= m.Tagged(p) - slotsField
	m.shelf = m.field(p, belowField)
	return true
}

// placed is a frame's code and its place there as a raw word.
func placed(f frame) uint64 { return uint64(f.code)<<placeBits | uint64(f.pc) }

// placedAt is a frame with the code and place of such a word.
func placedAt(raw uint64) frame {
	return frame{code: int(int64(raw) >> placeBits), pc: int(raw & (1<<placeBits - 1))}
}
