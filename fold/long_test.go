package fold_test

import (
	"testing"

	"tandem/api"
	"tandem/fold"
	"tandem/ir"
)

// TestLongCode: R1: code of many instructions, registers, rows, exits is folded, and soon. (liveOf would take too long to tell whether it is lean.)
func TestLongCode(t *testing.T) {
	const many = 1 << 16
	ps := roomy(t)
	wide := func(c api.Code) api.Code {
		c.Regs = many
		return c
	}
	full := func(slots int) api.Code { // with an exit that reads as many registers as a frame may have slots
		c := wide(small())
		for range slots / 2 {
			c.Exits[0].Frames = append(c.Exits[0].Frames, api.Frame{Proto: 1, Self: api.Loc{Kind: api.InSelf}, Slots: []api.Loc{{N: len(c.Exits[0].Frames)}, {N: 9999}}})
		}
		for i := range c.Exits[0].Frames[:slots/2] {
			c.Exits[0].Frames[i] = api.Frame{Proto: 1, Pc: 5, Self: api.Loc{Kind: api.InSelf}, Slots: []api.Loc{{N: 2 * i}, {N: 2*i + 1}, {N: 9999}}}
		}
		return c
	}
	for _, r := range []struct {
		what  string
		code  api.Code
		make  func(i int) []api.RIns
		least int // how many instructions stay
		most  int
	}{
		{"moves along all registers", wide(small()), func(i int) []api.RIns { return []api.RIns{in(api.RMove, min(i+1, many-1), i)} }, 1, 1},
		{"loads of all registers", wide(small()), func(i int) []api.RIns { return []api.RIns{in(api.RFree, i%many, 1)} }, 1, 2},
		{"sums on and on", small(in(api.RRaw, 6, 0), in(api.RRaw, 7, 1)), func(i int) []api.RIns { return []api.RIns{in(api.RAdd, 6, 6, 7)} }, 1, 1},
		{"jumps to the next", small(), func(i int) []api.RIns { return []api.RIns{in(api.RJump, i+1)} }, 1, 1},
		{"choices that go to one place", small(), func(i int) []api.RIns { return []api.RIns{in(api.RIf, 0, i+1)} }, 1, 1},
		{"rows that all read what the first one writes", small(in(api.RFree, 7, 0)), func(i int) []api.RIns { return []api.RIns{in(api.RIf, 7, i+3), in(api.RGlobal, 8)} }, 2 * many, 2*many + 2},
		{"choices back", small(), func(i int) []api.RIns {
			return []api.RIns{in(api.RMove, 7, 0), in(api.RIf, 7, i/3*2), in(api.RMove, 0, 1)}
		}, 2, 3*many + 1},
		{"guards with one exit", full(4000), func(i int) []api.RIns { return []api.RIns{exits(0, in(api.RUnbox, 9998, 0))} }, many, many + 1},
		{"guards with one exit that write what it reads", full(4000), func(i int) []api.RIns { return []api.RIns{exits(0, in(api.RGlobal, i%4000))} }, many, many + 1},
		{"numbers that are all unlike", small(in(api.RRaw, 6, 0), in(api.RRaw, 7, 1)), func(i int) []api.RIns {
			return []api.RIns{in(api.RAdd, 6, 6, 7), in(api.RBox, 8, 6), exits(0, in(api.RSetGlo, 8))}
		}, 2*many + 1, 2*many + 1},
	} {
		c := r.code
		for i := range many {
			c.Ins = append(c.Ins, r.make(i)...)
		}
		c.Ins = append(c.Ins, in(api.RReturn, 0))
		if !ir.Sound(ps, c) {
			t.Fatalf("%s: not sound", r.what)
		}
		got := fold.Code(ps, c)
		if len(got.Ins) < r.least || len(got.Ins) > r.most || !ir.Sound(ps, got) {
			t.Errorf("%s: %d instructions", r.what, len(got.Ins))
		}
	}
}
