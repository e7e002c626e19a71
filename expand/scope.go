package expand

import (
	"sort"

	"tandem/api"
)

// ground is what all scopes stand on: what symbols mean that none of them binds, and what is bound by those that forms are within.
type ground struct {
	words   map[string]word
	prims   map[string]primitive
	macros  map[string]*macro  // that the program defines
	renames []renamed          // what marks stand for, from 1 on
	bound   map[name][]binding // the outermost scope's first
	last    *scope             // the innermost
}

// binding is what the scope of a level binds a name to.
type binding struct {
	meaning
	level int
}

// renamed is a symbol that has been given a new mark: the mark that it had, where its macro was defined.
type renamed struct {
	*scope
	mark int
}

// global is what a symbol means that no scope binds.
func (g *ground) global(text string) meaning {
	if m, ok := g.macros[text]; ok {
		return m
	}
	if _, ok := g.words[text]; ok {
		return special(text)
	}
	if p, ok := g.prims[text]; ok {
		return p
	}
	return global(text)
}

// scope is a stretch of the program in which names are bound. It embeds the scope around it, and the ground.
//
// Names are not looked for from scope to scope, as these may be very many, one in the other: the ground keeps what binds a name by the scopes' levels. A level tells a scope, since a macro is used only within the scope in which it was defined: all scopes that are asked are around the form that is looked at.
type scope struct {
	*scope
	*ground
	level int
	names []name // that it binds itself
}

// inner is a new scope within this one. All others within it are done with.
func (s *scope) inner() *scope {
	for s.last != s {
		s.last.forget()
		s.last = s.last.scope
	}
	s.last = &scope{scope: s, ground: s.ground, level: s.level + 1}
	return s.last
}

func (s *scope) forget() {
	for _, n := range s.names {
		all := s.bound[n]
		if len(all) == 1 {
			delete(s.bound, n)
		} else {
			s.bound[n] = all[:len(all)-1]
		}
	}
}

// bind binds a name in the innermost scope; false, if that is done already.
func (s *scope) bind(n name, m meaning) bool {
	all := s.bound[n]
	if len(all) > 0 && all[len(all)-1].level == s.level {
		return false
	}
	s.bound[n] = append(all, binding{m, s.level})
	s.names = append(s.names, n)
	return true
}

// with is a new scope of variables, within this one.
func (s *scope) with(symbols []api.Datum, vars []int) *scope {
	in := s.inner()
	for i, v := range vars {
		in.bind(nameOf(symbols[i]), variable(v))
	}
	return in
}

// find is what this scope, or one around it, binds a name to.
func (s *scope) find(n name) (meaning, bool) {
	all := s.bound[n]
	count := sort.Search(len(all), func(i int) bool { return all[i].level > s.level })
	if count == 0 {
		return nil, false
	}
	return all[count-1].meaning, true
}

// means is what a symbol means in this scope.
func (s *scope) means(symbol api.Datum) meaning {
	n := nameOf(symbol)
	for {
		if m, ok := s.find(n); ok {
			return m
		}
		if n.mark == 0 {
			return s.global(n.text)
		}
		r := s.renames[n.mark-1]
		s, n.mark = r.scope, r.mark
	}
}

// rename gives a symbol of a macro a new mark.
func (g *ground) rename(n name, m *macro) api.Datum {
	g.renames = append(g.renames, renamed{m.scope, n.mark})
	return symbol(n.text, len(g.renames))
}

// is tells whether a datum is a symbol that means this special word.
func (s *scope) is(d api.Datum, word special) bool {
	return d.Kind == api.Symbol && s.means(d) == word
}

// head is what the first item of a list means, if that is a symbol; else nil.
func (s *scope) head(d api.Datum) meaning {
	if !isRow(d, 1) || d.Items[0].Kind != api.Symbol {
		return nil
	}
	return s.means(d.Items[0])
}
