package value

// Kinds of objects.
const (
	pairKind      = 1
	vectorKind    = 2
	textKind      = 3
	symbolKind    = 4
	numberKind    = 5
	closureKind   = 6
	conditionKind = 9
)

// How many words the objects have that are laid by the row, headers too.
const (
	pairWords   = 3
	symbolWords = 2
)

// wordBytes is how many of a text's bytes stand in a word.
const wordBytes = 8

// Whoever has a heap may lay any object on it: a kind alone makes no value, so that all fields are looked at.

func (s *Store) isShape(w uint64, kind, tagged, raws int) bool {
	return s.Kind(w) == kind && s.Tagged(w) == tagged && s.Raws(w) == raws
}

func (s *Store) isPair(w uint64) bool { return s.isShape(w, pairKind, 2, 0) }

func (s *Store) isVector(w uint64) bool { return s.isShape(w, vectorKind, s.Tagged(w), 0) }

func (s *Store) isClosure(w uint64) bool { return s.isShape(w, closureKind, s.Tagged(w), 1) }

func (s *Store) isCondition(w uint64) bool { return s.isShape(w, conditionKind, 3, 0) }

// isText tells whether w is a text: it has just the words that its length wants, and 0 behind its last byte.
func (s *Store) isText(w uint64) bool {
	raws := s.Raws(w)
	if raws == 0 || !s.isShape(w, textKind, 0, raws) {
		return false
	}
	length, last := s.raw(w, 0), s.raw(w, raws-1)
	// A length may be any word: none that is too great is counted with.
	if length > uint64(raws*wordBytes) || textRaws(int(length)) != raws {
		return false
	}
	inLast := length % wordBytes
	return inLast == 0 || last>>(8*inLast) == 0
}

// textRaws is how many raw words a text of that length has.
func textRaws(length int) int { return 1 + (length+wordBytes-1)/wordBytes }

// isBig tells whether w is a number beyond the fixnums, whose highest limb is not 0.
func (s *Store) isBig(w uint64) bool {
	raws := s.Raws(w)
	if raws < 2 || !s.isShape(w, numberKind, 0, raws) {
		return false
	}
	sign, last := s.raw(w, 0), s.raw(w, raws-1)
	if sign > 1 || last == 0 {
		return false
	}
	// Below 0 the fixnums go one further.
	return raws > 2 || last > mostFix+sign
}

// raw is a raw field that is known to be there.
func (s *Store) raw(w uint64, i int) uint64 {
	field, _ := s.Raw(w, i)
	return field
}

// field is a tagged field that is known to be there.
func (s *Store) field(w uint64, i int) uint64 {
	field, _ := s.Get(w, i)
	return field
}
