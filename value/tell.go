package value

import (
	"tandem/api"
	"tandem/num"
)

// Bytes are a text's bytes, and true; false of any other word.
func (s *Store) Bytes(w uint64) ([]byte, bool) {
	if !s.isText(w) {
		return nil, false
	}
	bytes := make([]byte, 0, s.Raws(w)*wordBytes)
	for i := 1; i < s.Raws(w); i++ {
		some := s.raw(w, i)
		for range wordBytes {
			bytes = append(bytes, byte(some))
			some >>= 8
		}
	}
	return bytes[:s.raw(w, 0)], true
}

// Num is a number, a fixnum too, and true; false of any other word.
func (s *Store) Num(w uint64) (api.Num, bool) {
	if n, ok := Int(w); ok {
		return num.Of(n), true
	}
	if !s.isBig(w) {
		return api.Num{}, false
	}
	n := api.Num{Neg: s.raw(w, 0) == 1}
	for i := 1; i < s.Raws(w); i++ {
		limbs := s.raw(w, i)
		n.Mag = append(n.Mag, uint32(limbs), uint32(limbs>>32))
	}
	// The highest word may be one limb alone.
	if last := len(n.Mag) - 1; n.Mag[last] == 0 {
		n.Mag = n.Mag[:last]
	}
	return n, true
}

// Name is a symbol's name, and true; false of any other word.
func (s *Store) Name(w uint64) (string, bool) {
	if !s.isShape(w, symbolKind, 1, 0) {
		return "", false
	}
	name, ok := s.Bytes(s.field(w, 0))
	return string(name), ok
}
