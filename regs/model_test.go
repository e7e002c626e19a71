package regs_test

import (
	"maps"
	"slices"

	"tandem/api"
)

// A second way to tell what is wanted: ahead of all instructions again and again, by a table of what they do.

// letters tell of each Op what its A, B, C are: w a register that is written, r one that is read, j a place, . nothing of these; E: it may go to an exit; x: nothing comes behind it.
var letters = map[int]string{
	api.RConst: "w..", api.RRaw: "w..", api.RMove: "wr.", api.RFree: "w..", api.RFreeOf: "wr.", api.RGlobal: "w..E", api.RSetGlo: "r..E",
	api.RUnbox: "wr.E", api.RBox: "wr.", api.RAdd: "wrrE", api.RSub: "wrrE", api.RMul: "wrrE", api.RLess: "wrr", api.RSame: "wrr",
	api.RPrim: "w..E", api.RCar: "wr.E", api.RCdr: "wr.E", api.RIs: "r..E", api.RNew: "wr.", api.RLoad: "wr.E", api.RSave: "rr.",
	api.RJump: "j..x", api.RIf: "rj.", api.RReturn: "r..x", api.RTail: "r..x", api.RExit: "...Ex", api.RSpill: "r..", api.RFill: "w..",
}

func has(in api.RIns, letter rune) bool { return slices.Contains([]rune(letters[in.Op]), letter) }

// modelOperands are the registers that an instruction reads itself, the one it writes, and the places where it jumps; false, if a row goes beyond the code's registers.
func modelOperands(c api.Code, x api.RIns) (reads, writes, places []int, ok bool) {
	for k, n := range []int{x.A, x.B, x.C} {
		switch letters[x.Op][k] {
		case 'r':
			reads = append(reads, n)
		case 'w':
			writes = append(writes, n)
		case 'j':
			places = append(places, n)
		}
	}
	first, n := 0, 0
	switch x.Op {
	case api.RPrim:
		first, n = x.C, x.D
	case api.RTail:
		first, n = x.A+1, x.B
	}
	if n > c.Regs {
		return nil, nil, nil, false
	}
	for k := 0; k < n; k++ {
		reads = append(reads, first+k)
	}
	return reads, writes, places, true
}

func exitRegisters(e api.Exit) []int {
	var all []int
	for _, f := range e.Frames {
		for _, l := range append([]api.Loc{f.Self}, f.Slots...) {
			if l.Kind == api.InReg || l.Kind == api.InRaw {
				all = append(all, l.N)
			}
		}
	}
	return all
}

// modelLive is what Live answers.
func modelLive(c api.Code) [][]int {
	var next, reads, writes [][]int
	if c.Regs < 0 || c.Regs > 65536 {
		return nil
	}
	for i, x := range c.Ins {
		if letters[x.Op] == "" {
			return nil
		}
		r, w, places, ok := modelOperands(c, x)
		if !has(x, 'x') {
			places = append(places, i+1)
		}
		if has(x, 'E') {
			if x.E < 0 || x.E >= len(c.Exits) {
				return nil
			}
			r = append(r, exitRegisters(c.Exits[x.E])...)
		}
		is := func(end int) func(n int) bool { return func(n int) bool { return n < 0 || n >= end } }
		if !ok || slices.ContainsFunc(r, is(c.Regs)) || slices.ContainsFunc(w, is(c.Regs)) || slices.ContainsFunc(places, is(len(c.Ins))) {
			return nil
		}
		next, reads, writes = append(next, places), append(reads, r), append(writes, w)
	}
	return settled(next, reads, writes)
}

func settled(next, reads, writes [][]int) [][]int {
	live := make([]map[int]bool, len(next))
	for turned := true; turned; {
		turned = false
		for i := len(next) - 1; i >= 0; i-- {
			now := map[int]bool{}
			for _, k := range next[i] {
				maps.Copy(now, live[k])
			}
			for _, r := range writes[i] {
				delete(now, r)
			}
			for _, r := range reads[i] {
				now[r] = true
			}
			turned = turned || len(now) != len(live[i])
			live[i] = now
		}
	}
	lists := make([][]int, len(next))
	for i, l := range live {
		lists[i] = slices.Sorted(maps.Keys(l))
	}
	return lists
}
