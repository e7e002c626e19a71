package show_test

import (
	"tandem/api"
	"tandem/num"
)

// dice is a row of numbers that is the same in each run.
type dice uint64

func (d *dice) below(n int) int {
	*d ^= *d << 13
	*d ^= *d >> 7
	*d ^= *d << 17
	return int(uint64(*d) >> 11 % uint64(n))
}

func (d *dice) of(all ...string) string { return all[d.below(len(all))] }

func (d *dice) bytes() string {
	b := make([]byte, d.below(6))
	for i := range b {
		b[i] = byte(d.below(256))
	}
	return string(b)
}

func (d *dice) number() api.Num {
	n := api.Num{Neg: d.below(2) == 0}
	for range d.below(4) {
		n.Mag = append(n.Mag, uint32(d.below(1<<32)))
	}
	return n
}

// any is a datum of any kind, whatever stands in its fields.
func (d *dice) any(deep int) api.Datum {
	x := api.Datum{Kind: d.below(13) - 1, N: d.below(600) - 300, Num: d.number(), Text: d.bytes()}
	if x.Kind == api.Bool {
		x.N = d.below(3)
	}
	if deep > 1 {
		for range d.below(4) {
			x.Items = append(x.Items, d.any(deep-1))
		}
		for range max(0, d.below(4)-1) {
			x.Rest = append(x.Rest, d.any(deep-1))
		}
	}
	return x
}

// readable is a datum that read can make, at most that deep.
func (d *dice) readable(deep int) api.Datum {
	kinds := 5
	if deep > 1 {
		kinds = 10
	}
	switch d.below(kinds) {
	case 0:
		return integer(num.Add(d.number()))
	case 1:
		return boolean(d.below(2))
	case 2:
		return letter(d.below(256))
	case 3:
		return text(d.bytes())
	case 4:
		return symbol(d.of("a", "b", "quote", "unquote", "...", "+", "-", "->x", "a.b", "!$%&*/:<=>?@^_~", "Z9", "-1.5"))
	case 5:
		return vector(d.row(deep-1, 0)...)
	case 6:
		// What is a list behind a dot is read as the list's own.
		if rest := d.readable(deep - 1); rest.Kind != api.List {
			return dotted(rest, d.row(deep-1, 1)...)
		}
	case 7:
		return list(symbol(d.of("quote", "quasiquote", "unquote", "unquote-splicing")), d.readable(deep-1))
	}
	return list(d.row(deep-1, 0)...)
}

func (d *dice) row(deep, least int) []api.Datum {
	var all []api.Datum
	for range least + d.below(4) {
		all = append(all, d.readable(deep))
	}
	return all
}
