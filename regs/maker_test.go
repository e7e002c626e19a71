package regs_test

import (
	"slices"
	"testing"

	"tandem/api"
	"tandem/check"
)

// roomy is a program whose proto 1 has so many arguments (one at least) and three values, and calls itself.
func roomy(t testing.TB, args int) []api.Proto {
	t.Helper()
	ps := []api.Proto{
		{Consts: []api.Datum{whole(1)}, Code: []api.Ins{{Op: api.OpConst}, {Op: api.OpReturn}}},
		{Args: args, Free: 3, Names: []string{"g"}, Code: []api.Ins{{Op: api.OpLocal}, {Op: api.OpLoop}, {Op: api.OpLocal}, {Op: api.OpLocal}, {Op: api.OpCall, A: 1}, {Op: api.OpReturn}}},
		{Consts: manyKinds(), Code: []api.Ins{{Op: api.OpConst}, {Op: api.OpReturn}}},
	}
	if _, _, e := check.Program(ps); e != api.OK {
		t.Fatal("a test's program is not right")
	}
	return ps
}

// manyKinds are constants of a proto.
func manyKinds() []api.Datum {
	return []api.Datum{
		whole(3), {Kind: api.Bool}, {Kind: api.Bool, N: 1}, {Kind: api.Void}, {Kind: api.Symbol, N: -1}, {Kind: api.Proc, N: 27},
		{Kind: api.List, Items: []api.Datum{whole(1)}}, {Kind: api.String, Text: "t"}, whole(1 << 61), {Kind: api.Vector}, {Kind: api.Symbol, Text: "a"},
	}
}

// ownKinds are constants of a code's own.
func ownKinds() []api.Datum {
	return []api.Datum{
		{Kind: api.Bool}, {Kind: api.Void}, whole(3), {Kind: api.Bool, N: 1}, {Kind: api.List}, {Kind: api.Symbol, Text: "a"}, {Kind: api.Char, N: 65}, {Kind: api.Proc, N: 27}, whole(-1 << 61), {Kind: api.Symbol, Text: "b"},
	}
}

// coder makes sound code of proto 1 of roomy. Its registers have each a kind for all of the code; or, if it is mixed, now this and now that: then it is left to chance whether a run reads what it wants.
type coder struct {
	dice
	args, row int // how many there may be in a row
	isMixed   bool
	isEntered bool // it begins at the loop
	kinds     []int
	ins       []api.RIns
	exits     []api.Exit
}

// coderOf is one with so many registers for values, and for raw numbers.
func coderOf(seed uint64, args, row, values, raws int) *coder {
	k := &coder{dice: dice{seed}, args: args, row: row}
	for range values {
		k.kinds = append(k.kinds, aValue)
	}
	for range raws {
		k.kinds = append(k.kinds, aRaw)
	}
	return k
}

// depth is how many slots the frame has at the beginning.
func (k *coder) depth() int {
	if k.isEntered {
		return k.args + 1
	}
	return k.args
}

func (k *coder) code(length int) api.Code {
	k.ins, k.exits = nil, nil
	kinds := slices.Clone(k.kinds)
	for r := k.depth(); r < len(kinds); r++ {
		if !k.isMixed || k.below(4) > 0 {
			k.put(k.begin(r))
		} else {
			k.kinds[r] = nothing
		}
	}
	for range length {
		k.instruction()
	}
	k.put(k.end())
	for i := range k.ins {
		place := &k.ins[i].A
		switch k.ins[i].Op {
		case api.RJump:
		case api.RIf:
			place = &k.ins[i].B
		default:
			continue
		}
		*place = i + 1 + k.below(min(8, len(k.ins)-i-1))
		if k.below(5) == 0 {
			*place = k.below(len(k.ins))
		}
	}
	c := api.Code{Proto: 1, Regs: len(kinds), Ins: k.ins, Exits: k.exits, Consts: ownKinds(), Raws: []int64{0, 1, 2, -3, 1 << 60, 1<<61 - 1, -1 << 61}, Names: []string{"g", "h"}}
	if k.isEntered {
		c.Entry = 1
	}
	k.kinds = kinds
	return c
}

func (k *coder) put(all ...api.RIns) { k.ins = append(k.ins, all...) }

// reg is a register to read that holds that kind, as far as is seen.
func (k *coder) reg(kind int) int {
	var some []int
	for r, is := range k.kinds {
		if is == kind {
			some = append(some, r)
		}
	}
	if len(some) == 0 || k.isMixed && k.below(200) == 0 {
		return k.below(len(k.kinds))
	}
	return pick(&k.dice, some...)
}

// new is a register to write.
func (k *coder) new(kind int) int {
	if !k.isMixed {
		return k.reg(kind)
	}
	r := k.below(len(k.kinds))
	k.kinds[r] = kind
	return r
}

// rows is the first of so many registers that hold values; false, if there are none.
func (k *coder) rows(n int) (int, bool) {
	var some []int
	for r := range len(k.kinds) - n + 1 {
		if !slices.Contains(k.kinds[r:r+n], aRaw) && !slices.Contains(k.kinds[r:r+n], nothing) {
			some = append(some, r)
		}
	}
	if len(some) == 0 {
		return 0, false
	}
	return pick(&k.dice, some...), true
}

func (k *coder) begin(r int) api.RIns {
	if k.isMixed && r >= k.depth() {
		k.kinds[r] = pick(&k.dice, aValue, aRaw)
	}
	switch {
	case k.kinds[r] == aValue && k.below(2) == 0:
		return in(api.RFree, r, k.below(3))
	case k.kinds[r] == aRaw && k.below(12) == 0:
		return exits(k.exitOf(api.Loc{}), in(api.RUnbox, r, k.below(k.depth())))
	}
	return k.load(r, k.kinds[r])
}

func (k *coder) load(r, kind int) api.RIns {
	switch {
	case kind == aRaw:
		return in(api.RRaw, r, k.below(pick(&k.dice, 4, 4, 4, 7)))
	case k.below(4) == 0:
		return in(api.RConst, r, k.below(len(manyKinds())), 3)
	}
	return in(api.RConst, r, k.below(len(ownKinds())))
}

// exit is the number of an exit that reads some registers.
func (k *coder) exit() int {
	if len(k.exits) > 0 && k.below(3) == 0 {
		return len(k.exits) - 1 - k.below(min(2, len(k.exits)))
	}
	return k.exitOf(k.loc())
}

func (k *coder) exitOf(self api.Loc) int {
	inner := api.Frame{Proto: 1, Self: self}
	for range k.args {
		inner.Slots = append(inner.Slots, self)
		if self != (api.Loc{}) {
			self = k.loc()
		}
	}
	e := api.Exit{Frames: []api.Frame{inner}}
	if k.below(4) == 0 {
		outer := api.Frame{Proto: 1, Pc: 5, Self: api.Loc{Kind: api.InSelf}}
		for range k.args + 1 {
			outer.Slots = append(outer.Slots, k.loc())
		}
		e.Frames = append([]api.Frame{outer}, e.Frames...)
	}
	k.exits = append(k.exits, e)
	return len(k.exits) - 1
}

func (k *coder) loc() api.Loc {
	switch k.below(7) {
	case 0:
		return api.Loc{Kind: api.InSelf}
	case 1, 2:
		return api.Loc{Kind: api.InConst, N: k.below(len(ownKinds()))}
	case 3:
		if slices.Contains(k.kinds, aRaw) {
			return api.Loc{Kind: api.InRaw, N: k.reg(aRaw)}
		}
	}
	if slices.Contains(k.kinds, aValue) {
		return api.Loc{N: k.reg(aValue)}
	}
	return api.Loc{Kind: api.InSelf}
}

func (k *coder) end() api.RIns {
	switch k.below(3) {
	case 0:
		n := k.below(k.row + 1)
		if r, ok := k.rows(n + 1); ok {
			return in(api.RTail, r, n)
		}
	case 1:
		return exits(k.exit(), in(api.RExit))
	}
	return in(api.RReturn, k.reg(aValue))
}

func (k *coder) instruction() {
	switch k.below(30) {
	case 0, 1, 2, 3:
		kind := pick(&k.dice, aValue, aRaw)
		k.put(k.load(k.new(kind), kind))
	case 4, 5:
		b, c, e := k.reg(aRaw), k.reg(aRaw), k.exit()
		k.put(exits(e, in(pick(&k.dice, api.RAdd, api.RSub, api.RMul), k.new(aRaw), b, c)))
	case 6, 7, 8:
		b, c := k.reg(aRaw), k.reg(aRaw)
		k.put(in(pick(&k.dice, api.RLess, api.RSame), k.new(aValue), b, c))
	case 9, 10, 11:
		b := k.reg(aRaw)
		k.put(in(api.RBox, k.new(aValue), b))
	case 12:
		b, e := k.reg(aValue), k.exit()
		k.put(exits(e, in(api.RUnbox, k.new(aRaw), b)))
	case 13, 14, 15, 16, 17, 18:
		kind := pick(&k.dice, aValue, aRaw)
		b := k.reg(kind)
		k.put(in(api.RMove, k.new(kind), b))
	case 19, 20, 21, 22, 23:
		k.put(in(api.RIf, k.reg(aValue)))
	case 24:
		k.put(in(api.RJump))
	case 25:
		k.put(k.end())
	default:
		k.other()
	}
}

func (k *coder) other() {
	b, c := k.reg(aValue), k.reg(aValue)
	switch k.below(30) {
	case 0:
		k.put(exits(k.exit(), in(api.RSetGlo, b, k.below(2))), exits(k.exit(), in(api.RGlobal, k.new(aValue), k.below(2))))
	case 1:
		e := k.exit()
		k.put(exits(e, in(pick(&k.dice, api.RCar, api.RCdr), k.new(aValue), b)))
	case 2:
		k.put(exits(k.exit(), in(api.RIs, b, 1)), in(api.RFreeOf, k.new(aValue), b, k.below(3)))
	case 3, 4:
		k.put(in(api.RNew, k.new(aValue), b))
	case 5:
		e := k.exit()
		k.put(exits(e, in(api.RLoad, k.new(aValue), b)))
	case 6, 7:
		a := k.new(aValue)
		k.put(in(api.RNew, a, b), in(api.RSave, a, c))
	case 8, 9, 10, 11, 12, 13:
		name := pick(&k.dice, "not", "display", "pair?", "newline")
		k.primitive(name, api.Prims()[primitive(name)].Least)
	case 14, 15, 16, 17, 18:
		k.primitive(pick(&k.dice, "cons", "eq?", "cons", "eq?", "+", "set-car!"), 2)
	case 19, 20, 21, 22, 23, 24:
		k.primitive("list", k.below(k.row+1))
	default:
		k.put(in(api.RFree, k.new(aValue), k.below(3)))
	}
}

func (k *coder) primitive(name string, n int) {
	if r, ok := k.rows(n); ok && n <= k.row {
		e := k.exit()
		k.put(exits(e, in(api.RPrim, k.new(aValue), primitive(name), r, n)))
	}
}
