package base

import "tandem/api"

// frame is where a procedure runs, or where the machine itself waits for one that it has called.
type frame struct {
	code int // a proto's number; below 0: what the machine waits for
	pc   int
	base int // where its slots begin
	self uint64
}

// stack is the frames, the outermost first, and their slots, one behind the other. Below them may stand others on the heap, which a continuation has laid there.
type stack struct {
	frames []frame
	slots  []uint64
	shelf  uint64 // the innermost frame on the heap, or the empty list
	deep   int    // how many slots those on the heap have together
}

func (s *stack) eachRoot(visit func(w *uint64)) {
	for i := range s.slots {
		visit(&s.slots[i])
	}
	for i := range s.frames {
		visit(&s.frames[i].self)
	}
	visit(&s.shelf)
}

func (s *stack) top() *frame { return &s.frames[len(s.frames)-1] }

// slot is slot i of the innermost frame.
func (s *stack) slot(i int) *uint64 { return &s.slots[s.top().base+i] }

func (s *stack) pop() uint64 {
	last := len(s.slots) - 1
	w := s.slots[last]
	s.slots = s.slots[:last]
	return w
}

// leave drops the innermost frame.
func (s *stack) leave() {
	s.slots = s.slots[:s.top().base]
	s.frames = s.frames[:len(s.frames)-1]
}

// empty drops all frames.
func (s *stack) empty() {
	*s = stack{frames: s.frames[:0], slots: s.slots[:0], shelf: emptyList}
}

// hasSlots tells whether the frames may have so many slots more; if not, the run ends.
func (m *Machine) hasSlots(more int) bool {
	if m.deep+len(m.slots)+more > m.Size() {
		m.end(api.Memory)
		return false
	}
	return true
}

func (m *Machine) push(w uint64) {
	if m.hasSlots(1) {
		m.slots = append(m.slots, w)
	}
}

// begin begins a frame. Frames without slots are bounded too: they also take memory.
func (m *Machine) begin(code int, self uint64, slots ...uint64) {
	if len(m.frames) >= api.MaxWords {
		m.end(api.Memory)
		return
	}
	if m.hasSlots(len(slots)) {
		m.frames = append(m.frames, frame{code: code, base: len(m.slots), self: self})
		m.slots = append(m.slots, slots...)
	}
}
