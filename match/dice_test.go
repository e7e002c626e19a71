package match_test

import "tandem/api"

// dice is a row of numbers that is the same in each run.
type dice uint64

func (d *dice) below(n int) int {
	*d ^= *d << 13
	*d ^= *d >> 7
	*d ^= *d << 17
	return int(uint64(*d) >> 11 % uint64(n))
}

func (d *dice) of(all ...string) string { return all[d.below(len(all))] }

func (d *dice) symbol(all ...string) api.Datum {
	return marked(d.of(all...), max(0, d.below(6)-4))
}

func (d *dice) number() api.Datum {
	return integer(api.Num{Neg: d.below(4) == 0, Mag: []uint32{uint32(d.below(3)), 0}[:d.below(3)]})
}

// leaf is a datum of any kind but a List and a Vector, whatever stands in its fields.
func (d *dice) leaf() api.Datum {
	switch d.below(4) {
	case 0:
		return d.number()
	case 1:
		x := api.Datum{Kind: d.below(13) - 1, N: d.below(2), Text: d.of("", "a"), Items: []api.Datum{d.number(), symbol("a"), symbol("...")}[:d.below(4)]}
		if x.Kind == api.List || x.Kind == api.Vector {
			x.Items = nil
		}
		return x
	}
	return d.symbol("a", "b", "c", "x")
}

// rowOf is a List or a Vector, at times with a Rest that may have any number of data.
func (d *dice) rowOf(items []api.Datum, part func() api.Datum) api.Datum {
	x := api.Datum{Kind: api.List, Items: items}
	if d.below(4) == 0 {
		x.Kind = api.Vector
	}
	for range max(0, d.below(8)-5) {
		x.Rest = append(x.Rest, part())
	}
	return x
}

// form is any datum, at most that deep.
func (d *dice) form(deep int) api.Datum {
	if deep == 1 || d.below(3) == 0 {
		return d.leaf()
	}
	part := func() api.Datum { return d.form(deep - 1) }
	var items []api.Datum
	for range d.below(4) {
		items = append(items, part())
	}
	return d.rowOf(items, part)
}

// pattern is mostly one, and more often so than any datum; fresh are names that it has not used yet.
func (d *dice) pattern(deep int, fresh *[]string) api.Datum {
	if deep == 1 || d.below(4) == 0 {
		return d.patternLeaf(fresh)
	}
	part := func() api.Datum { return d.pattern(deep-1, fresh) }
	var items []api.Datum
	dots := d.below(2)
	for range d.below(4) {
		items = append(items, part())
		if dots > 0 && d.below(2) == 0 || d.below(30) == 0 {
			items = append(items, symbol("..."))
			dots--
		}
	}
	return d.rowOf(items, part)
}

func (d *dice) patternLeaf(fresh *[]string) api.Datum {
	n := d.below(10)
	switch {
	case n < 6 && len(*fresh) > 0:
		s := marked((*fresh)[0], max(0, d.below(6)-4))
		*fresh = (*fresh)[1:]
		return s
	case n == 6:
		return symbol("_")
	case n == 7 && d.below(8) == 0:
		return symbol("...")
	}
	return d.leaf()
}

func names() *[]string { return &[]string{"a", "b", "c", "d", "e", "f", "g", "h"} }

// grown is a form that a pattern mostly matches.
func (d *dice) grown(p api.Datum) api.Datum {
	switch {
	case d.below(60) == 0 || p.Kind == api.Symbol && d.below(6) > 0:
		return d.form(3)
	case p.Kind != api.List && p.Kind != api.Vector:
		return p
	}
	out := api.Datum{Kind: p.Kind}
	for i, part := range p.Items {
		n := 1
		if is(part, "...", 0) {
			n = d.below(2) * d.below(8) / 7
		} else if i+1 < len(p.Items) && is(p.Items[i+1], "...", 0) {
			n = d.below(4)
		}
		for range n {
			out.Items = append(out.Items, d.grown(part))
		}
	}
	if len(p.Rest) > 0 {
		d.growRest(&out, p.Rest[0])
	}
	return out
}

// growRest puts behind a list what a Rest stands for: items, a Rest, or both.
func (d *dice) growRest(out *api.Datum, rest api.Datum) {
	x := d.grown(rest)
	if x.Kind == api.List && d.below(4) > 0 {
		out.Items = append(out.Items, x.Items...)
		out.Rest = x.Rest
		return
	}
	out.Rest = []api.Datum{x}
}

// template is a datum with symbols of these names, and ellipses.
func (d *dice) template(deep int, vars []api.Bind) api.Datum {
	n := d.below(8)
	switch {
	case n < 5 && deep == 1 && len(vars) > 0:
		v := vars[d.below(len(vars))]
		return marked(v.Name, v.Mark)
	case n == 7 && d.below(10) == 0:
		return symbol("...")
	case n == 7 && deep > 1:
		return list(symbol("..."), d.template(deep-1, vars))
	case deep == 1 || n == 0:
		return d.leaf()
	}
	part := func() api.Datum { return d.template(deep-1, vars) }
	var items []api.Datum
	for range d.below(4) {
		items = append(items, part())
		for range max(0, d.below(5)-2) {
			items = append(items, symbol("..."))
		}
	}
	return d.rowOf(items, part)
}

// bind is one that no match makes: its Depth is any, and so is that of its Subs.
func (d *dice) bind(name string, depth int) api.Bind {
	b := api.Bind{Name: name, Mark: max(0, d.below(6)-4), Depth: depth, D: d.form(3)}
	if d.below(6) == 0 {
		b.Depth = d.below(4) - 1
	}
	if depth > 0 {
		n := 2
		if d.below(4) == 0 {
			n = d.below(4)
		}
		for range n {
			b.Subs = append(b.Subs, d.bind(d.of(name, "a", "b"), depth-1))
		}
	}
	return b
}
