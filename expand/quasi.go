package expand

import "tandem/api"

func (x *expander) quasiquote(s *scope, form api.Datum) (step, api.Errno) {
	if len(form.Items) != 2 {
		return step{}, api.ErrForm
	}
	d := form.Items[1]
	if word, inner := s.quasi(d); word == "unquote" {
		return goOn(s, inner)
	}
	return done(x.template(s, d, 0)())
}

// quasi is the special word of a list of quasiquote, unquote or unquote-splicing and one datum, and that datum; of other data an empty word.
func (s *scope) quasi(d api.Datum) (special, api.Datum) {
	if !isRow(d, 2) || len(d.Items) > 2 {
		return "", api.Datum{}
	}
	switch word, _ := s.head(d).(special); word {
	case "quasiquote", "unquote", "unquote-splicing":
		return word, d.Items[1]
	}
	return "", api.Datum{}
}

// deeper is how deep what stands behind such a word is.
func deeper(word special, depth int) int {
	if word == "quasiquote" {
		return depth + 1
	}
	return depth - 1
}

// isTail tells whether the items that are left of a list are an unquote that was written as its Rest.
func (s *scope) isTail(items, rest []api.Datum) bool {
	word, _ := s.quasi(api.Datum{Kind: api.List, Items: items, Rest: rest})
	return word == "unquote"
}

// isLive tells whether there is an unquote at depth 0 in a datum.
func (s *scope) isLive(d api.Datum, depth int) bool {
	if d.Kind != api.List && d.Kind != api.Vector {
		return false
	}
	d = listOf(d)
	if word, inner := s.quasi(d); word != "" {
		depth = deeper(word, depth)
		return depth < 0 || s.isLive(inner, depth)
	}
	for i, item := range d.Items {
		if s.isTail(d.Items[i:], d.Rest) {
			return s.isLive(list(d.Items[i:]...), depth)
		}
		if s.isLive(item, depth) {
			return true
		}
	}
	return len(d.Rest) > 0 && s.isLive(d.Rest[0], depth)
}

// listOf is a list, or a vector's list.
func listOf(d api.Datum) api.Datum {
	if d.Kind == api.Vector {
		return list(d.Items...)
	}
	return d
}

// template is what makes a datum at a depth within quasiquotes.
func (x *expander) template(s *scope, d api.Datum, depth int) part {
	if !s.isLive(d, depth) {
		return x.constant(d)
	}
	if d.Kind == api.Vector {
		return x.prim("list->vector", x.templateList(s, listOf(d), depth))
	}
	return x.templateList(s, d, depth)
}

func (x *expander) templateList(s *scope, d api.Datum, depth int) part {
	word, inner := s.quasi(d)
	switch {
	case word == "":
		return x.pair(s, d.Items, d.Rest, depth)
	case word == "unquote" && depth == 0:
		return x.of(s, inner)
	case word == "unquote-splicing" && depth == 0:
		return x.failing(api.ErrForm)
	}
	return x.pair(s, d.Items, nil, deeper(word, depth))
}

func (x *expander) failing(e api.Errno) part {
	return func() (api.Core, api.Errno) { return api.Core{}, e }
}

// pair is the first item of a list, and all behind it.
func (x *expander) pair(s *scope, items, rest []api.Datum, depth int) part {
	if len(items) == 0 {
		return x.behind(s, items, rest, depth)
	}
	more := func() (api.Core, api.Errno) { return x.behind(s, items[1:], rest, depth)() }
	if word, inner := s.quasi(items[0]); word == "unquote-splicing" && depth == 0 {
		return x.prim("append", x.of(s, inner), more)
	}
	item := func() (api.Core, api.Errno) { return x.template(s, items[0], depth)() }
	return x.prim("cons", item, more)
}

// behind is what follows an item of a list.
func (x *expander) behind(s *scope, items, rest []api.Datum, depth int) part {
	switch {
	case len(items) == 0 && len(rest) > 0:
		return x.template(s, rest[0], depth)
	case len(items) == 0:
		return x.constant(list())
	case s.isTail(items, rest):
		return x.template(s, list(items...), depth)
	}
	return x.pair(s, items, rest, depth)
}
