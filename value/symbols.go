package value

import (
	"slices"
	"strings"
)

// symbols are those that were interned, in the order of their making.
type symbols struct {
	words []uint64
	// places tells where among the words a name's symbol stands.
	places map[string]int
	// times is how often the heap had been collected when the words were right.
	times int
}

func noSymbols(times int) symbols { return symbols{places: map[string]int{}, times: times} }

// known are the symbols that are still there. A collection that was not Keep's goes by the store unseen, but for the heap's count: it may have moved or dropped any of them.
func (s *Store) known() *symbols {
	if s.interned.times != s.Times() {
		s.interned = noSymbols(s.Times())
	}
	return &s.interned
}

// Intern is the symbol of that name: the one that was made first, if it is still there; else it is laid, behind its text.
func (s *Store) Intern(name string) (uint64, bool) {
	known := s.known()
	if i, ok := known.places[name]; ok {
		return known.words[i], true
	}
	if 1+textRaws(len(name))+symbolWords > s.room() {
		return 0, false
	}
	text, _ := s.Text([]byte(name))
	symbol, _ := s.layTagged(symbolKind, text)
	// A copy, lest a long source stays for the sake of a name in it.
	known.places[strings.Clone(name)] = len(known.words)
	known.words = append(known.words, symbol)
	return symbol, true
}

// Keep collects with these roots, and behind them the symbols that were interned, which stay so; it answers the roots as they are then.
func (s *Store) Keep(roots ...uint64) []uint64 {
	known := s.known()
	moved := s.Collect(slices.Concat(roots, known.words)...)
	copy(known.words, moved[len(roots):])
	known.times = s.Times()
	return slices.Clone(moved[:len(roots)])
}
