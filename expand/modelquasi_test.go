package expand_test

import "tandem/api"

// short is the word of (unquote d) and the like.
func (m *model) short(d api.Datum, e *env) string {
	if proper(d) && len(d.Items) == 2 {
		for _, w := range []string{"quasiquote", "unquote", "unquote-splicing"} {
			if m.is(d.Items[0], e, w) {
				return w
			}
		}
	}
	return ""
}

func shift(w string) int {
	if w == "quasiquote" {
		return 1
	}
	return -1
}

// live are the unquotes at depth 0 of a datum: whether there is one.
func (m *model) live(d api.Datum, depth int, e *env) bool {
	switch d.Kind {
	case api.Vector:
		return m.live(list(d.Items...), depth, e)
	case api.List:
	default:
		return false
	}
	if w := m.short(d, e); w != "" {
		return depth+shift(w) < 0 || m.live(d.Items[1], depth+shift(w), e)
	}
	if n := len(d.Items); n > 2 && m.short(list(d.Items[n-2:]...), e) == "unquote" && len(d.Rest) == 0 {
		d.Rest = []api.Datum{list(d.Items[n-2:]...)}
		d.Items = d.Items[:n-2]
	}
	for _, p := range partsOf(d) {
		if m.live(p, depth, e) {
			return true
		}
	}
	return false
}

func (m *model) quasi(d api.Datum, depth int, e *env) api.Core {
	if !m.live(d, depth, e) {
		return m.constant(d)
	}
	if d.Kind == api.Vector {
		return m.prim("list->vector", func() api.Core { return m.quasiList(list(d.Items...), depth, e) })
	}
	return m.quasiList(d, depth, e)
}

func (m *model) quasiList(d api.Datum, depth int, e *env) api.Core {
	if w := m.short(d, e); w != "" {
		if depth+shift(w) < 0 {
			want(w == "unquote")
			return m.expr(d.Items[1], e)
		}
		return m.prim("cons", func() api.Core { return m.constant(d.Items[0]) }, func() api.Core {
			return m.quasiItems(d.Items[1:], nil, depth+shift(w), e)
		})
	}
	rest := d.Rest
	if n := len(d.Items); n > 2 && len(rest) == 0 && m.short(list(d.Items[n-2:]...), e) == "unquote" {
		d.Items, rest = d.Items[:n-2], []api.Datum{list(d.Items[n-2:]...)}
	}
	return m.quasiItems(d.Items, rest, depth, e)
}

func (m *model) quasiItems(items, rest []api.Datum, depth int, e *env) api.Core {
	switch {
	case len(items) == 0 && len(rest) == 0:
		return m.constant(list())
	case len(items) == 0:
		return m.quasi(rest[0], depth, e)
	}
	more := func() api.Core { return m.quasiItems(items[1:], rest, depth, e) }
	if depth == 0 && m.short(items[0], e) == "unquote-splicing" {
		return m.prim("append", func() api.Core { return m.expr(items[0].Items[1], e) }, more)
	}
	return m.prim("cons", func() api.Core { return m.quasi(items[0], depth, e) }, more)
}
