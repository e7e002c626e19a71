package ir_test

import (
	"strings"

	"tandem/api"
	"tandem/check"
)

// A second way to tell whether code is sound: what operands name is told by letters.

// letters tell of each Op what A to E are: r a register, k a constant, o whose constant, w a raw number, s a slot, n a name, p a proto, j an instruction, e an exit, f a value of the frame's closure, v one of any closure, q a primitive, c the first of D registers, d how many, t how many behind A, . nothing.
func letters() []string {
	return strings.Fields(`0
		RConst=rko.. RRaw=rw... RMove=rr... RFree=rf... RGlobal=rn..e RUnbox=rr..e RBox=rr... RAdd=rrr.e RSub=rrr.e RMul=rrr.e
		RLess=rrr.. RSame=rrr.. RPrim=rqcde RCar=rr..e RCdr=rr..e RIs=rp..e RNew=rr... RLoad=rr..e RSave=rr... RJump=j....
		RIf=rj... RReturn=r.... RTail=rt... RExit=....e RSpill=rs... RFill=rs... RFreeOf=rrv.. RSetGlo=rn..e`)
}

// modelSound is what Sound is to say of a right program's code whose place is right too.
func modelSound(ps []api.Proto, c api.Code) bool {
	if c.Regs < check.Depths(ps, c.Proto)[c.Entry] || c.Regs > 65536 || c.Slots < 0 || c.Slots > 65536 || len(c.Ins) == 0 {
		return false
	}
	if last := c.Ins[len(c.Ins)-1].Op; last < api.RJump || last > api.RExit || last == api.RIf {
		return false
	}
	for _, in := range c.Ins {
		if in.Op < 1 || in.Op > 28 || !modelOperands(ps, c, in) {
			return false
		}
	}
	for _, e := range c.Exits {
		if !modelExit(ps, c, e) {
			return false
		}
	}
	return modelMaps(c) && modelPools(c)
}

func modelOperands(ps []api.Proto, c api.Code, in api.RIns) bool {
	_, all, _ := strings.Cut(letters()[in.Op], "=")
	for i, n := range []int{in.A, in.B, in.C, in.D, in.E} {
		count := map[byte]int{'.': 1, 'r': c.Regs, 'w': len(c.Raws), 's': c.Slots, 'n': len(c.Names), 'p': len(ps), 'o': len(ps) + 1, 'j': len(c.Ins), 'e': len(c.Exits), 'f': ps[c.Proto].Free, 'v': 4096, 'q': 85, 't': c.Regs - in.A, 'k': len(c.Consts), 'c': c.Regs + 1, 'd': c.Regs + 1 - in.C}[all[i]]
		if all[i] == 'k' && in.C > 0 && in.C <= len(ps) {
			count = len(ps[in.C-1].Consts)
		}
		if n < 0 || n >= count {
			return false
		}
	}
	if in.Op == api.RPrim {
		p := api.Prims()[in.B]
		return in.D >= p.Least && (p.Most < 0 || in.D <= p.Most)
	}
	return true
}

func modelExit(ps []api.Proto, c api.Code, e api.Exit) bool {
	if len(e.Frames) == 0 || e.Frames[0].Proto != c.Proto {
		return false
	}
	for i, f := range e.Frames {
		depths := check.Depths(ps, f.Proto)
		if f.Pc < 0 || f.Pc >= len(depths) || depths[f.Pc] < 0 {
			return false
		}
		want := depths[f.Pc]
		if i+1 < len(e.Frames) {
			want--
			if f.Pc == 0 || ps[f.Proto].Code[f.Pc-1].Op != api.OpCall {
				return false
			}
		}
		if len(f.Slots) != want {
			return false
		}
		for _, l := range append([]api.Loc{f.Self}, f.Slots...) {
			count, ok := map[int]int{api.InReg: c.Regs, api.InRaw: c.Regs, api.InConst: len(c.Consts), api.InSelf: 1, api.InSlot: c.Slots, api.RawSlot: c.Slots}[l.Kind]
			if !ok || l.N < 0 || l.N >= count {
				return false
			}
		}
	}
	return true
}

func modelMaps(c api.Code) bool {
	for _, m := range c.Maps {
		for i, r := range m {
			if r < 0 || r >= c.Regs || i > 0 && r <= m[i-1] {
				return false
			}
		}
	}
	return len(c.Maps) == 0 || len(c.Maps) == len(c.Ins)
}

func modelPools(c api.Code) bool {
	for _, n := range c.Raws {
		if n>>61 != 0 && n>>61 != -1 {
			return false
		}
	}
	for _, d := range c.Consts {
		if !modelConstant(d) {
			return false
		}
	}
	return true
}

func modelConstant(d api.Datum) bool {
	mag := d.Num.Mag
	if len(d.Items) > 0 || len(d.Rest) > 0 || d.Kind != api.Int && (d.Num.Neg || len(mag) > 0) || d.Kind != api.Symbol && d.Text != "" {
		return false
	}
	switch d.Kind {
	case api.Int:
		if d.N != 0 || len(mag) > 2 || len(mag) > 0 && mag[len(mag)-1] == 0 || len(mag) == 0 && d.Num.Neg {
			return false
		}
		return len(mag) < 2 || mag[1] < 1<<29 || d.Num.Neg && mag[1] == 1<<29 && mag[0] == 0
	case api.Bool:
		return d.N>>1 == 0
	case api.Char:
		return d.N>>8 == 0
	case api.Proc:
		return d.N >= 0 && d.N < 92
	case api.Symbol, api.Void, api.List:
		return d.N == 0
	}
	return false
}
