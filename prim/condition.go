package prim

import "tandem/value"

// hasConditionRoom tells whether there is room for a condition and all its parts. It is asked ahead of laying the first of them, which could not be taken back.
func hasConditionRoom(s *value.Store, class, message string, irritants int) bool {
	left := room(s) - conditionWords - textWords(len(message)) - pairWords*irritants
	return left >= textWords(len(class))+symbolWords || left >= 0 && hasSymbol(s, class)
}

// hasSymbol tells whether a symbol of that name lies on the heap, as an interned one does. It goes through all objects, since a store tells what is interned only by interning it; that is seldom asked for, when there is hardly any room. (One that the store has forgotten, since a collection was not Keep's, can't be told from those: then parts that were laid stay.)
func hasSymbol(s *value.Store, name string) bool {
	for place := 1; place < s.Used(); {
		p := uint64(place) * 4
		if got, ok := s.Name(p); ok && got == name {
			return true
		}
		place += 1 + s.Tagged(p) + s.Raws(p)
	}
	return false
}

func layCondition(s *value.Store, class, message, irritants uint64) (uint64, bool) {
	p, ok := s.Alloc(conditionKind, 3, 0)
	if !ok {
		return 0, false
	}
	s.Set(p, classField, class)
	s.Set(p, messageField, message)
	s.Set(p, irritantsField, irritants)
	return p, true
}

func (c *call) testCondition() answer { return told(c.isCondition(c.args[0])) }

func (c *call) class() answer { return c.part(c.isCondition, classField) }

func (c *call) message() answer { return c.part(c.isCondition, messageField) }

func (c *call) irritants() answer { return c.part(c.isCondition, irritantsField) }
