package value

import (
	"slices"

	"tandem/api"
	"tandem/num"
)

// Cons lays a pair.
func (s *Store) Cons(a, b uint64) (uint64, bool) { return s.layTagged(pairKind, a, b) }

// List lays a list of the items; of none it is the empty list, and nothing is laid.
func (s *Store) List(items ...uint64) (uint64, bool) {
	if len(items) > s.room()/pairWords || !s.maySet(items...) {
		return 0, false
	}
	return s.chain(emptyList, items...)
}

// Vector lays a vector of the items.
func (s *Store) Vector(items ...uint64) (uint64, bool) { return s.layTagged(vectorKind, items...) }

// Text lays a text of these bytes.
func (s *Store) Text(b []byte) (uint64, bool) {
	p, ok := s.Alloc(textKind, 0, textRaws(len(b)))
	if !ok {
		return 0, false
	}
	s.SetRaw(p, 0, uint64(len(b)))
	i := 1
	for some := range slices.Chunk(b, wordBytes) {
		s.SetRaw(p, i, packed(some))
		i++
	}
	return p, true
}

// packed is a word of up to eight bytes, the lowest first.
func packed(some []byte) uint64 {
	var w uint64
	for i, c := range some {
		w |= uint64(c) << (8 * i)
	}
	return w
}

// Number is a number's word; one beyond the fixnums is laid; false, if it has more than MaxLimbs limbs.
func (s *Store) Number(n api.Num) (uint64, bool) {
	if small, ok := num.Small(n); ok {
		return Fix(small)
	}
	// A sum is canonical, whatever was handed in.
	n = num.Add(n)
	if len(n.Mag) > api.MaxLimbs {
		return 0, false
	}
	return s.layRaw(numberKind, numberRaws(n)...)
}

// numberRaws are a number's sign, then its limbs, two a word.
func numberRaws(n api.Num) []uint64 {
	raws := []uint64{0}
	if n.Neg {
		raws[0] = 1
	}
	for limbs := range slices.Chunk(n.Mag, 2) {
		w := uint64(limbs[0])
		if len(limbs) == 2 {
			w |= uint64(limbs[1]) << 32
		}
		raws = append(raws, w)
	}
	return raws
}

// layTagged lays an object of these tagged fields; false, if there is no room, or one of them may not be set: then nothing is laid.
func (s *Store) layTagged(kind int, fields ...uint64) (uint64, bool) {
	// Asked ahead of the laying: what is laid could not be taken back, and might be what a field wrongly points to.
	if !s.maySet(fields...) {
		return 0, false
	}
	p, ok := s.Alloc(kind, len(fields), 0)
	if !ok {
		return 0, false
	}
	for i, w := range fields {
		s.Set(p, i, w)
	}
	return p, true
}

// layRaw lays an object of these raw fields; false, if there is no room.
func (s *Store) layRaw(kind int, fields ...uint64) (uint64, bool) {
	p, ok := s.Alloc(kind, 0, len(fields))
	if !ok {
		return 0, false
	}
	for i, w := range fields {
		s.SetRaw(p, i, w)
	}
	return p, true
}

// chain lays a pair for each item, the last one first, with end as the last cdr; false, if there is no room: then pairs that were laid stay.
func (s *Store) chain(end uint64, items ...uint64) (uint64, bool) {
	for _, w := range slices.Backward(items) {
		p, ok := s.Cons(w, end)
		if !ok {
			return 0, false
		}
		end = p
	}
	return end, true
}

// room is how many words may still be laid.
func (s *Store) room() int { return s.Size() - s.Used() }

// maySet tells whether the heap takes all the words as tagged fields.
func (s *Store) maySet(words ...uint64) bool {
	for _, w := range words {
		tag := w & tagMask
		if tag == headerTag || tag == pointerTag && !s.Is(w) {
			return false
		}
	}
	return true
}
