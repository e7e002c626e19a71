package expand

import "tandem/api"

// name is what a symbol is told by.
type name struct {
	text string
	mark int
}

func nameOf(symbol api.Datum) name { return name{symbol.Text, symbol.N} }

func symbol(text string, mark int) api.Datum {
	return api.Datum{Kind: api.Symbol, Text: text, N: mark}
}

func boolean(n int) api.Datum { return api.Datum{Kind: api.Bool, N: n} }

func void() api.Datum { return api.Datum{Kind: api.Void} }

func list(items ...api.Datum) api.Datum { return api.Datum{Kind: api.List, Items: items} }

// isRow tells whether a datum is a list of that many items at least, and nothing behind them.
func isRow(d api.Datum, least int) bool {
	return d.Kind == api.List && len(d.Rest) == 0 && len(d.Items) >= least
}

func areSymbols(data []api.Datum) bool {
	for _, d := range data {
		if d.Kind != api.Symbol {
			return false
		}
	}
	return true
}

func namesOf(symbols []api.Datum) []name {
	var all []name
	for _, s := range symbols {
		all = append(all, nameOf(s))
	}
	return all
}

func areDistinct(symbols []api.Datum) bool {
	known := map[name]int{}
	for i, s := range symbols {
		known[nameOf(s)] = i
	}
	return len(known) == len(symbols)
}

// isDeeper tells whether a datum is more than that deep; it is one deep itself.
func isDeeper(d api.Datum, deep int) bool {
	if deep == 0 {
		return true
	}
	switch d.Kind {
	case api.List:
		return anyDeeper(d.Items, deep-1) || anyDeeper(d.Rest[:min(1, len(d.Rest))], deep-1)
	case api.Vector, api.Cond:
		return anyDeeper(d.Items, deep-1)
	}
	return false
}

func anyDeeper(data []api.Datum, deep int) bool {
	for _, d := range data {
		if isDeeper(d, deep) {
			return true
		}
	}
	return false
}

// renew takes a datum's mark away, and gives it new lists, which are answered: what is in them is still old.
func renew(d *api.Datum) (items, rest []api.Datum) {
	if d.Kind == api.Symbol {
		d.N = 0
	}
	d.Num.Mag = fresh(d.Num.Mag)
	d.Items = fresh(d.Items)
	d.Rest = fresh(d.Rest)
	return d.Items, d.Rest
}

func appendLists(all [][]api.Datum, items, rest []api.Datum) [][]api.Datum {
	if len(items) > 0 {
		all = append(all, items)
	}
	if len(rest) > 0 {
		all = append(all, rest)
	}
	return all
}

func fresh[T any](l []T) []T {
	if len(l) == 0 {
		return nil
	}
	return append(make([]T, 0, len(l)), l...)
}
