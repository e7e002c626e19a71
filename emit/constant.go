package emit

import (
	"strconv"

	"tandem/api"
)

// constants are a proto's, in the order in which they are first wanted.
type constants struct {
	data []api.Datum
	at   map[string]int // by how they are spelt, if alike ones are one
}

// unassigned is what stands in a CRec's variable ahead of its value.
func unassigned() api.Datum { return api.Datum{Kind: api.Symbol, N: -1} }

// constant pushes a constant.
func (w *writer) constant(d api.Datum) {
	w.put(api.Ins{Op: api.OpConst, A: w.consts.of(d)})
}

func (c *constants) of(d api.Datum) int {
	if isAlone(d) {
		return c.add(d)
	}
	key := string(spell(nil, d))
	n, ok := c.at[key]
	if !ok {
		if c.at == nil {
			c.at = map[string]int{}
		}
		n = c.add(d)
		c.at[key] = n
	}
	return n
}

func (c *constants) add(d api.Datum) int {
	c.data = append(c.data, copied(d))
	return len(c.data) - 1
}

// isAlone tells whether a constant is an object of its own, which is never the same as another.
func isAlone(d api.Datum) bool {
	return d.Kind == api.List || d.Kind == api.Vector || d.Kind == api.String
}

// spell appends a datum as bytes: those of two data are the same, if layer 7 calls them alike. (Of a procedure N alone counts, not its name; of a kind that is none nothing does.)
func spell(out []byte, d api.Datum) []byte {
	out = spellNumber(out, d.Kind)
	switch d.Kind {
	case api.Int:
		return spellNum(out, d.Num)
	case api.Bool, api.Char, api.Proc:
		return spellNumber(out, d.N)
	case api.String:
		return spellText(out, d.Text)
	case api.Symbol:
		return spellText(spellNumber(out, d.N), d.Text)
	case api.List:
		return spellAll(spellAll(out, d.Items), restOf(d))
	case api.Vector:
		return spellAll(out, d.Items)
	case api.Cond:
		return spellAll(spellText(out, d.Text), d.Items)
	}
	return out
}

func spellNumber(out []byte, n int) []byte {
	return append(strconv.AppendInt(out, int64(n), 10), ' ')
}

func spellText(out []byte, s string) []byte {
	return append(spellNumber(out, len(s)), s...)
}

func spellAll(out []byte, data []api.Datum) []byte {
	out = spellNumber(out, len(data))
	for _, d := range data {
		out = spell(out, d)
	}
	return out
}

// spellNum passes over what a number's value does not hang on: limbs 0 at its end, and the sign of 0.
func spellNum(out []byte, n api.Num) []byte {
	size := len(n.Mag)
	for size > 0 && n.Mag[size-1] == 0 {
		size--
	}
	if n.Neg && size > 0 {
		out = append(out, '-')
	}
	out = spellNumber(out, size)
	for _, limb := range n.Mag[:size] {
		out = append(out, byte(limb), byte(limb>>8), byte(limb>>16), byte(limb>>24))
	}
	return out
}
