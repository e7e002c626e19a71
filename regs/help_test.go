package regs_test

import (
	"slices"
	"strconv"
	"testing"

	"tandem/api"
	"tandem/emit"
	"tandem/expand"
	"tandem/num"
	"tandem/read"
)

// compiled is a source's code, without the prelude.
func compiled(t testing.TB, text string) []api.Proto {
	t.Helper()
	data, _, e := read.All(text)
	forms, _, f := expand.Program(data)
	ps, g := emit.Program(forms)
	if e != api.OK || f != api.OK || g != api.OK {
		t.Fatalf("%s: errors %d, %d, %d", text, e, f, g)
	}
	return ps
}

// told is code as a text for a test's messages.
func told(c api.Code) string {
	names := []string{"?", "RConst", "RRaw", "RMove", "RFree", "RGlobal", "RUnbox", "RBox", "RAdd", "RSub", "RMul", "RLess", "RSame", "RPrim", "RCar", "RCdr", "RIs", "RNew", "RLoad", "RSave", "RJump", "RIf", "RReturn", "RTail", "RExit", "RSpill", "RFill", "RFreeOf", "RSetGlo"}
	s := "code " + strconv.Itoa(c.Proto) + " at " + strconv.Itoa(c.Entry) + ", " + strconv.Itoa(c.Regs) + " registers, " + strconv.Itoa(c.Slots) + " slots"
	for at, in := range c.Ins {
		s += "\n" + strconv.Itoa(at) + " " + names[in.Op]
		for _, n := range []int{in.A, in.B, in.C, in.D, in.E} {
			s += " " + strconv.Itoa(n)
		}
		if len(c.Maps) == len(c.Ins) {
			for _, n := range c.Maps[at] {
				s += " v" + strconv.Itoa(n)
			}
		}
	}
	for n, e := range c.Exits {
		s += "\nexit " + strconv.Itoa(n)
		for _, f := range e.Frames {
			s += ", " + strconv.Itoa(f.Proto) + " " + strconv.Itoa(f.Pc)
			for _, l := range append([]api.Loc{f.Self}, f.Slots...) {
				s += " " + strconv.Itoa(l.Kind) + ":" + strconv.Itoa(l.N)
			}
		}
	}
	for _, n := range c.Raws {
		s += "\nraw " + strconv.FormatInt(n, 10)
	}
	for _, d := range c.Consts {
		s += "\nconstant " + strconv.Itoa(d.Kind) + " " + strconv.Itoa(d.N) + " " + num.Text(d.Num) + " " + d.Text
	}
	return s
}

// in is an instruction.
func in(op int, operands ...int) api.RIns {
	operands = append(operands, 0, 0, 0, 0, 0)
	return api.RIns{Op: op, A: operands[0], B: operands[1], C: operands[2], D: operands[3], E: operands[4]}
}

// exits is an instruction that may go to an exit.
func exits(e int, x api.RIns) api.RIns {
	x.E = e
	return x
}

func whole(n int64) api.Datum { return api.Datum{Kind: api.Int, Num: num.Of(n)} }

func primitive(name string) int {
	return slices.IndexFunc(api.Prims(), func(p api.Prim) bool { return p.Name == name })
}

// dice are numbers that look like any, and are always the same.
type dice struct{ state uint64 }

func (d *dice) below(n int) int {
	d.state ^= d.state << 13
	d.state ^= d.state >> 7
	d.state ^= d.state << 17
	return int(d.state >> 11 % uint64(n))
}

func pick[T any](d *dice, all ...T) T { return all[d.below(len(all))] }
