package match

import (
	"slices"

	"tandem/api"
	"tandem/num"
)

// name is what a symbol is told by.
type name struct {
	text string
	mark int
}

func nameOf(symbol api.Datum) name { return name{symbol.Text, symbol.N} }

// isPlain tells whether a datum is the symbol of that text as it is read.
func isPlain(d api.Datum, text string) bool {
	return d.Kind == api.Symbol && nameOf(d) == name{text, 0}
}

func isEllipsis(d api.Datum) bool { return isPlain(d, "...") }

// restOf is the Rest that counts: none, or one datum.
func restOf(d api.Datum) []api.Datum {
	if d.Kind != api.List || len(d.Rest) == 0 {
		return nil
	}
	return d.Rest[:1]
}

// partsOf are a datum's parts: items, and the Rest.
func partsOf(d api.Datum) [2][]api.Datum {
	switch d.Kind {
	case api.List, api.Vector, api.Cond:
		return [2][]api.Datum{d.Items, restOf(d)}
	}
	return [2][]api.Datum{}
}

// isDeeper tells whether a datum is more than that deep; it is one deep itself.
func isDeeper(d api.Datum, deep int) bool {
	if deep == 0 {
		return true
	}
	for _, some := range partsOf(d) {
		for _, part := range some {
			if isDeeper(part, deep-1) {
				return true
			}
		}
	}
	return false
}

// alike goes no deeper than the less deep of the two.
func alike(a, b api.Datum) bool {
	if a.Kind != b.Kind {
		return false
	}
	switch a.Kind {
	case api.Int:
		return num.Cmp(a.Num, b.Num) == 0
	case api.Bool, api.Char, api.Proc:
		return a.N == b.N
	case api.String:
		return a.Text == b.Text
	case api.Symbol:
		return nameOf(a) == nameOf(b)
	case api.Cond:
		return a.Text == b.Text && alikeParts(a, b)
	}
	return alikeParts(a, b)
}

func alikeParts(a, b api.Datum) bool {
	x, y := partsOf(a), partsOf(b)
	return slices.EqualFunc(x[0], y[0], alike) && slices.EqualFunc(x[1], y[1], alike)
}

// copied is a datum in new memory.
func copied(d api.Datum) api.Datum {
	if d.Items == nil && d.Rest == nil {
		d.Num.Mag = fresh(d.Num.Mag)
		return d
	}
	return copiedLists(d)
}

// copiedLists copies a datum that has lists. Data may be deeper than calls go, so those whose lists are still the old ones are kept in a list.
func copiedLists(d api.Datum) api.Datum {
	old := []*api.Datum{&d}
	for len(old) > 0 {
		at := old[len(old)-1]
		old = old[:len(old)-1]
		at.Num.Mag = fresh(at.Num.Mag)
		at.Items = fresh(at.Items)
		at.Rest = fresh(at.Rest)
		old = appendListed(old, at.Items)
		old = appendListed(old, at.Rest)
	}
	return d
}

// appendListed appends those of some data that have lists, though it be empty ones: these may have spare room.
func appendListed(all []*api.Datum, data []api.Datum) []*api.Datum {
	for i := range data {
		if d := &data[i]; d.Num.Mag != nil || d.Items != nil || d.Rest != nil {
			all = append(all, d)
		}
	}
	return all
}

func fresh[T any](l []T) []T {
	if len(l) == 0 {
		return nil
	}
	return append(make([]T, 0, len(l)), l...)
}
