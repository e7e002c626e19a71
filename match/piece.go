package match

import (
	"slices"

	"tandem/api"
)

// piece is a part of a template, as it is filled.
type piece struct {
	role     role
	template api.Datum
	bind     int     // the variable's
	parts    []piece // of a row, without ellipses
	rest     *piece
	ellipses int   // how many follow it
	binds    []int // where one does: those that stand in it
}

// cutter cuts a template into pieces.
type cutter struct {
	known   map[name]int // the first bind of each name
	met     []int        // the binds that stand in what was cut so far
	escaped bool         // is an ellipsis an ordinary symbol
}

func pieceOf(template api.Datum, binds []api.Bind) piece {
	c := cutter{known: map[name]int{}}
	for i, b := range slices.Backward(binds) {
		c.known[name{b.Name, b.Mark}] = i
	}
	return c.cut(template)
}

func (c *cutter) isEllipsis(d api.Datum) bool { return !c.escaped && isEllipsis(d) }

// isEscape tells whether a datum is a list of an ellipsis and one datum.
func (c *cutter) isEscape(d api.Datum) bool {
	return d.Kind == api.List && len(d.Rest) == 0 && len(d.Items) == 2 && c.isEllipsis(d.Items[0])
}

func (c *cutter) cut(d api.Datum) piece {
	switch {
	case d.Kind == api.Symbol:
		return c.symbol(d)
	case c.isEscape(d):
		return c.escape(d.Items[1])
	case d.Kind == api.List, d.Kind == api.Vector:
		return c.row(d)
	}
	return piece{role: itself, template: d}
}

// symbol is a symbol's piece. An ellipsis that may stand where it does is passed over by items.
func (c *cutter) symbol(d api.Datum) piece {
	if c.isEllipsis(d) {
		return piece{role: stray}
	}
	bind, ok := c.known[nameOf(d)]
	if !ok {
		return piece{role: itself, template: d}
	}
	c.met = append(c.met, bind)
	return piece{role: variable, bind: bind}
}

func (c *cutter) escape(d api.Datum) piece {
	c.escaped = true
	out := c.cut(d)
	c.escaped = false
	return out
}

func (c *cutter) row(d api.Datum) piece {
	out := piece{role: row, template: d, parts: c.items(d.Items)}
	for _, r := range restOf(d) {
		rest := c.cut(r)
		out.rest = &rest
	}
	return out
}

func (c *cutter) items(items []api.Datum) []piece {
	var all []piece
	for i := 0; i < len(items); {
		from := len(c.met)
		p := c.cut(items[i])
		for i++; i < len(items) && c.isEllipsis(items[i]); i++ {
			p.ellipses++
		}
		if p.ellipses > 0 {
			p.binds = distinct(c.met[from:])
		}
		all = append(all, p)
	}
	return all
}

func distinct(binds []int) []int {
	all := slices.Clone(binds)
	slices.Sort(all)
	return slices.Compact(all)
}
