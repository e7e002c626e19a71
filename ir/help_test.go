package ir_test

import (
	"slices"
	"strconv"
	"testing"

	"tandem/api"
	"tandem/check"
	"tandem/emit"
	"tandem/expand"
	"tandem/ir"
	"tandem/num"
	"tandem/read"
)

// compiled is a source's code, without the prelude.
func compiled(t testing.TB, text string) []api.Proto {
	t.Helper()
	data, _, e := read.All(text)
	forms, _, f := expand.Program(data)
	ps, g := emit.Program(forms)
	if e != api.OK || f != api.OK || g != api.OK {
		t.Fatalf("%s: errors %d, %d, %d", text, e, f, g)
	}
	return ps
}

// named is the last procedure of that name.
func named(t testing.TB, ps []api.Proto, name string) int {
	t.Helper()
	for n := len(ps) - 1; n > 0; n-- {
		if ps[n].Name == name {
			return n
		}
	}
	t.Fatalf("no procedure %s", name)
	return 0
}

// entries are the places at which code of a proto may begin.
func entries(ps []api.Proto, p int) []int {
	var all []int
	for pc, depth := range check.Depths(ps, p) {
		if p > 0 && depth >= 0 && (pc == 0 || ps[p].Code[pc].Op == api.OpLoop) {
			all = append(all, pc)
		}
	}
	return all
}

// built is code that has to be there, and to be Sound.
func built(t testing.TB, ps []api.Proto, p, entry int, feeds ...api.Feed) api.Code {
	t.Helper()
	c, ok := ir.Build(ps, p, entry, feeds...)
	if !ok || c.Proto != p || c.Entry != entry || c.Slots != 0 || len(c.Maps) != 0 || len(c.Ins) > 1<<16 {
		t.Fatalf("%d at %d: %v, %s", p, entry, ok, told(c))
	}
	for _, in := range c.Ins {
		if in.Op == api.RSpill || in.Op == api.RFill {
			t.Fatalf("%d at %d: slots are used", p, entry)
		}
	}
	if !ir.Sound(ps, c) {
		t.Fatalf("%d at %d is not sound: %s", p, entry, told(c))
	}
	return c
}

// counts are how often each Op stands in code.
func counts(c api.Code) map[int]int {
	all := map[int]int{}
	for _, in := range c.Ins {
		all[in.Op]++
	}
	return all
}

// told is code as a text for a test's messages.
func told(c api.Code) string {
	names := []string{"?", "RConst", "RRaw", "RMove", "RFree", "RGlobal", "RUnbox", "RBox", "RAdd", "RSub", "RMul", "RLess", "RSame", "RPrim", "RCar", "RCdr", "RIs", "RNew", "RLoad", "RSave", "RJump", "RIf", "RReturn", "RTail", "RExit", "RSpill", "RFill", "RFreeOf", "RSetGlo"}
	b := []byte("code " + strconv.Itoa(c.Proto) + " at " + strconv.Itoa(c.Entry) + ", " + strconv.Itoa(c.Regs) + " registers")
	add := func(texts ...string) {
		for _, s := range texts {
			b = append(b, s...)
		}
	}
	for at, in := range c.Ins {
		add("\n", strconv.Itoa(at), " ", names[in.Op])
		for _, n := range []int{in.A, in.B, in.C, in.D, in.E} {
			add(" ", strconv.Itoa(n))
		}
	}
	for n, e := range c.Exits {
		add("\nexit ", strconv.Itoa(n))
		for _, f := range e.Frames {
			add(", ", strconv.Itoa(f.Proto), " ", strconv.Itoa(f.Pc))
			for _, l := range append([]api.Loc{f.Self}, f.Slots...) {
				add(" ", strconv.Itoa(l.Kind), ":", strconv.Itoa(l.N))
			}
		}
	}
	return string(b)
}

func whole(n int64) api.Datum { return api.Datum{Kind: api.Int, Num: num.Of(n)} }

func op(n int, operands ...int) api.Ins {
	operands = append(operands, 0, 0)
	return api.Ins{Op: n, A: operands[0], B: operands[1]}
}

func primitive(name string) int {
	return slices.IndexFunc(api.Prims(), func(p api.Prim) bool { return p.Name == name })
}

// ints are feeds that say that all primitives of the protos saw numbers alone.
func ints(ps []api.Proto) []api.Feed {
	var all []api.Feed
	for n, p := range ps {
		for pc, in := range p.Code {
			if in.Op == api.OpPrim {
				all = append(all, api.Feed{Proto: n, Pc: pc, Mask: 1 << api.Int, Callee: -1})
			}
		}
	}
	return all
}

// dice are numbers that look like any, and are always the same.
type dice struct{ state uint64 }

func (d *dice) below(n int) int {
	d.state ^= d.state << 13
	d.state ^= d.state >> 7
	d.state ^= d.state << 17
	return int(d.state >> 11 % uint64(n))
}

func pick[T any](d *dice, all ...T) T { return all[d.below(len(all))] }
