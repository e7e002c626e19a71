package value

import "tandem/api"

// Put lays a datum, parts ahead of what they are part of; false, if there is no room, or something in it may not be: then what was laid ahead of that stays.
func (s *Store) Put(d api.Datum) (uint64, bool) { return s.put(1, d) }

// put lays a datum that stands that deep.
func (s *Store) put(depth int, d api.Datum) (uint64, bool) {
	if depth > api.MaxDepth {
		return 0, false
	}
	switch d.Kind {
	case api.Int:
		return s.Number(d.Num)
	case api.Bool:
		return truth(d.N)
	case api.Char:
		return character(d.N)
	case api.String:
		return s.Text([]byte(d.Text))
	case api.Symbol:
		return s.Intern(d.Text)
	case api.List:
		return s.putList(depth, d)
	case api.Vector:
		return s.putVector(depth, d)
	case api.Void:
		return unspecified, true
	}
	return 0, false
}

func (s *Store) putList(depth int, d api.Datum) (uint64, bool) {
	if len(d.Rest) > 1 || len(d.Rest) == 1 && len(d.Items) == 0 {
		return 0, false
	}
	items, ok := s.putAll(depth+1, d.Items...)
	if !ok {
		return 0, false
	}
	rest, ok := s.putAll(depth+1, d.Rest...)
	if !ok {
		return 0, false
	}
	// Without a Rest the empty list is what ends the chain.
	return s.chain(append(rest, emptyList)[0], items...)
}

func (s *Store) putVector(depth int, d api.Datum) (uint64, bool) {
	items, ok := s.putAll(depth+1, d.Items...)
	if !ok {
		return 0, false
	}
	return s.Vector(items...)
}

// putAll lays data that stand that deep, in order: their words; false, if one of them may not be laid.
func (s *Store) putAll(depth int, data ...api.Datum) ([]uint64, bool) {
	var words []uint64
	for _, d := range data {
		w, ok := s.put(depth, d)
		if !ok {
			return nil, false
		}
		words = append(words, w)
	}
	return words, true
}
