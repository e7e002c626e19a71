package base_test

import (
	"strconv"
	"testing"

	"tandem/api"
	"tandem/base"
	"tandem/emit"
	"tandem/expand"
	"tandem/read"
)

// compiled is a source's code.
func compiled(t testing.TB, text string) []api.Proto {
	t.Helper()
	data, _, e := read.All(text)
	forms, _, f := expand.Program(data)
	ps, g := emit.Program(forms)
	if e != api.OK || f != api.OK || g != api.OK {
		t.Fatalf("%s: errors %d, %d, %d", text, e, f, g)
	}
	return ps
}

// ample are limits of which programs that end by themselves want less.
func ample() api.Limits { return api.Limits{Words: 1 << 16, Fuel: 1 << 20, Output: 1 << 16} }

// told is an outcome as text.
func told(o api.Outcome) string {
	hows := []string{"goes on", "value", "raised", "memory", "fuel", "bound", "static"}
	text := hows[o.How]
	if o.Output != "" {
		text += " |" + o.Output + "|"
	}
	if o.Text != "" {
		text += " " + o.Text
	}
	if o.Err != api.OK || o.At != 0 {
		text += " error " + strconv.Itoa(int(o.Err)) + " at " + strconv.Itoa(o.At)
	}
	return text
}

// row is a source, and what it is to come to.
type row struct{ source, want string }

func runRows(t *testing.T, rows []row) {
	t.Helper()
	for _, r := range rows {
		if got := told(base.Run(compiled(t, r.source), ample())); got != r.want {
			t.Errorf("%s\n got %s\nwant %s", r.source, got, r.want)
		}
	}
}

// made is a machine of code that is right.
func made(t testing.TB, ps []api.Proto, l api.Limits) *base.Machine {
	t.Helper()
	m, e := base.New(ps, l)
	if m == nil || e != api.OK {
		t.Fatalf("error %d", e)
	}
	return m
}

// code is a program of one proto that has these instructions and constants.
func code(consts []api.Datum, ins ...api.Ins) []api.Proto {
	return []api.Proto{{Code: ins, Consts: consts, Names: []string{"x", "y"}}}
}

func op(n int, operands ...int) api.Ins {
	operands = append(operands, 0, 0)
	return api.Ins{Op: n, A: operands[0], B: operands[1]}
}

func whole(n uint32) api.Datum { return api.Datum{Kind: api.Int, Num: api.Num{Mag: []uint32{n}}} }

func text(s string) api.Datum { return api.Datum{Kind: api.String, Text: s} }

func undefined() api.Datum { return api.Datum{Kind: api.Symbol, N: -1} }

func procedure(name string) api.Datum {
	for n, p := range api.Prims() {
		if p.Name == name {
			return api.Datum{Kind: api.Proc, N: n}
		}
	}
	return api.Datum{}
}

// dice are numbers that look like any, and are always the same.
type dice struct{ state uint64 }

func (d *dice) below(n int) int {
	d.state ^= d.state << 13
	d.state ^= d.state >> 7
	d.state ^= d.state << 17
	return int(d.state >> 11 % uint64(n))
}

// disorder is the first place of a heap, or, counted on from its end, the first root, that is not in order; -1, if all is.
func disorder(words, roots []uint64) int {
	begins := map[uint64]int{}
	size := func(h uint64) (tagged, all int) {
		tagged = int(h >> 8 & (1<<24 - 1))
		return tagged, 1 + tagged + int(h>>32&(1<<24-1))
	}
	for at := 1; at < len(words); {
		_, all := size(words[at])
		if words[at]&3 != 3 || at+all > len(words) {
			return at
		}
		begins[4*uint64(at)] = at
		at += all
	}
	wrong := func(w uint64) bool { return w&3 == 3 || w&3 == 0 && begins[w] == 0 }
	for at := 1; at < len(words); {
		tagged, all := size(words[at])
		for i := range tagged {
			if wrong(words[at+1+i]) {
				return at + 1 + i
			}
		}
		at += all
	}
	for i, w := range roots {
		if wrong(w) {
			return len(words) + i
		}
	}
	return -1
}
