package regs_test

import (
	"slices"
	"testing"

	"tandem/api"
)

// Registers that hold a value when the code comes by one way, and a raw number when it comes by another, and are moved ahead of the place where the ways part again. No map could name such a register rightly.

// TestMixed: P17.1, P17.3.
func TestMixed(t *testing.T) {
	ps := roomy(t, 2)
	either := func(r int) []api.RIns { // register r holds raw 1, or the closure's value 0; which one hangs on register 0
		return []api.RIns{in(api.RIf, 0, -3), in(api.RRaw, r, 1), in(api.RJump, -2), in(api.RFree, r, 0)}
	}
	ends := func(r int) []api.RIns {
		return []api.RIns{in(api.RIf, 0, -3), in(api.RBox, 9, r), in(api.RReturn, 9), in(api.RReturn, r)}
	}
	first := func(r int) []api.RIns {
		return []api.RIns{in(api.RIf, 0, -3), in(api.RBox, 9, r), in(api.RJump, -2), in(api.RMove, 9, r)}
	}
	wants := func(n int) []api.RIns { // so many values more are wanted from here on
		var all []api.RIns
		for r := range n {
			all = append(all, in(api.RFree, 20+r, r%3))
		}
		return all
	}
	has := func(n int) []api.RIns {
		var all []api.RIns
		for r := range n {
			all = append(all, in(api.RNew, 20+r, 20+r), in(api.RSave, 20+r, 20+r))
		}
		return all
	}
	row := func(all ...api.RIns) []api.RIns { return all }
	for what, parts := range map[string][][]api.RIns{
		"a move":                         {either(3), row(in(api.RMove, 4, 3)), ends(4)},
		"the other one is read":          {either(3), row(in(api.RMove, 4, 3)), row(in(api.RIf, 0, -3), in(api.RBox, 9, 3), in(api.RReturn, 9), in(api.RReturn, 4))},
		"no move":                        {either(3), ends(3)},
		"moves on and on":                {either(3), row(in(api.RMove, 4, 3), in(api.RMove, 5, 4), in(api.RMove, 3, 5), in(api.RMove, 6, 3)), ends(6)},
		"to itself":                      {either(3), row(in(api.RMove, 3, 3)), ends(3)},
		"places changed":                 {either(3), either(4), row(in(api.RMove, 5, 3), in(api.RMove, 3, 4), in(api.RMove, 4, 5)), first(3), row(in(api.RFree, 3, 1)), ends(4)},
		"an argument":                    {row(in(api.RIf, 0, 3), in(api.RRaw, 1, 2), in(api.RJump, 3), in(api.RMove, 4, 1)), ends(4)},
		"moved, and put again":           {either(3), row(in(api.RMove, 4, 3), in(api.RRaw, 3, 2), in(api.RBox, 5, 3), in(api.RMove, 6, 4), in(api.RNew, 4, 5)), ends(6)},
		"moved, and both read":           {either(3), row(in(api.RMove, 4, 3)), first(4), row(in(api.RNew, 5, 9), in(api.RSave, 5, 5)), ends(3)},
		"nothing at first":               {row(in(api.RIf, 0, 5), in(api.RRaw, 3, 1), in(api.RJump, 5)), row(in(api.RMove, 4, 0), in(api.RJump, 5)), row(in(api.RIf, 0, -3), in(api.RBox, 9, 3), in(api.RReturn, 9), in(api.RReturn, 0))},
		"in a loop":                      {either(3), either(4), row(in(api.RGlobal, 8), in(api.RMove, 5, 3), in(api.RMove, 3, 4), in(api.RMove, 4, 5), in(api.RNew, 7, 8), in(api.RSetGlo, 7), in(api.RCar, 8, 8), in(api.RIf, 8, 8)), ends(3)},
		"from an argument":               {row(in(api.RIf, 0, 3), in(api.RRaw, 3, 1), in(api.RJump, 4), in(api.RMove, 3, 0)), row(in(api.RMove, 4, 3)), ends(4)},
		"moved where nobody asks for it": {either(3), row(in(api.RMove, 4, 3), in(api.RMove, 5, 4)), ends(3)},
	} {
		for _, more := range []int{0, 3, 5, 6, 7, 9, 20} {
			var ins []api.RIns
			for i, part := range append([][]api.RIns{wants(more)}, parts...) {
				if i == len(parts) {
					part = append(has(more), part...)
				}
				ins = append(ins, placed(slices.Clone(part), len(ins), more)...)
			}
			c := small(60, ins...)
			for _, n := range []int{8, 9, 10, 12, 16, 40, 64} {
				alone(t, what, ps, c, n)
			}
		}
	}
}

// placed are instructions that stand from a place on. Of their jumps, -3 is the last of them, -2 the one behind them; others are counted from the first one behind those that go ahead of all.
func placed(part []api.RIns, at, ahead int) []api.RIns {
	for i := range part {
		to := &part[i].A
		switch part[i].Op {
		case api.RIf:
			to = &part[i].B
		case api.RJump:
		default:
			continue
		}
		switch *to {
		case -3:
			*to = at + len(part) - 1
		case -2:
			*to = at + len(part)
		default:
			*to += ahead
		}
	}
	return part
}

// TestMixedAtFirst: what may be moved before it was put gets something at the beginning; that takes no register that holds an argument, and asks for constants and raw numbers that may not be there.
func TestMixedAtFirst(t *testing.T) {
	for _, n := range []int{8, 9, 12} {
		for args := 1; args <= n-4; args++ {
			ps := roomy(t, args)
			for more := range 24 {
				var ins []api.RIns
				for r := range more {
					ins = append(ins, in(api.RFree, 50+r, r%3))
				}
				at := len(ins)
				ins = append(ins, in(api.RIf, 0, at+3), exits(1, in(api.RUnbox, 40, 0)), in(api.RJump, at+4), in(api.RFree, 40, 0), in(api.RMove, 41, 40), in(api.RMove, 42, 41))
				for r := range more + args - 1 { // not the register on which the way hangs
					from := 50 + r
					if r >= more {
						from = 1 + r - more
					}
					ins = append(ins, in(api.RNew, from, from), in(api.RSave, from, from))
				}
				last := len(ins)
				ins = append(ins, in(api.RIf, 0, last+3), in(api.RBox, 44, 42), in(api.RReturn, 44), in(api.RReturn, 42))
				c := small(80, ins...)
				c.Consts, c.Raws = nil, nil
				c.Exits[0], c.Exits[1] = selfExit(args), selfExit(args)
				c.Exits = c.Exits[:2]
				alone(t, "at first", ps, c, n)
			}
		}
	}
}

// selfExit is an exit that reads no register.
func selfExit(args int) api.Exit {
	f := api.Frame{Proto: 1, Self: api.Loc{Kind: api.InSelf}}
	for range args {
		f.Slots = append(f.Slots, f.Self)
	}
	return api.Exit{Frames: []api.Frame{f}}
}
