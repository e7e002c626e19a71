package fold_test

import (
	"testing"

	"tandem/api"
	"tandem/check"
)

// roomy is a program whose proto 1 has two arguments and three values, and calls itself; proto 2 has constants of all kinds.
func roomy(t testing.TB) []api.Proto {
	t.Helper()
	ps := []api.Proto{
		{Consts: []api.Datum{whole(1)}, Code: []api.Ins{{Op: api.OpConst}, {Op: api.OpReturn}}},
		{Args: 2, Free: 3, Names: []string{"g"}, Code: []api.Ins{{Op: api.OpLocal}, {Op: api.OpLoop}, {Op: api.OpLocal}, {Op: api.OpLocal, A: 1}, {Op: api.OpCall, A: 1}, {Op: api.OpReturn}}},
		{Consts: manyKinds(), Code: []api.Ins{{Op: api.OpConst}, {Op: api.OpReturn}}},
	}
	if _, _, e := check.Program(ps); e != api.OK {
		t.Fatal("a test's program is not right")
	}
	return ps
}

// manyKinds are constants of a proto: from 6 on, objects.
func manyKinds() []api.Datum {
	return []api.Datum{
		whole(3), {Kind: api.Bool}, {Kind: api.Bool, N: 1}, {Kind: api.Void}, {Kind: api.Symbol, N: -1}, {Kind: api.Proc, N: 27},
		{Kind: api.List, Items: []api.Datum{whole(1)}}, {Kind: api.String, Text: "t"}, whole(1 << 61), {Kind: api.Vector}, {Kind: api.Symbol, Text: "a"},
	}
}

// ownKinds are constants of a code's own.
func ownKinds() []api.Datum {
	return []api.Datum{
		{Kind: api.Bool}, {Kind: api.Void}, whole(3), {Kind: api.Bool, N: 1}, {Kind: api.List}, {Kind: api.Symbol, Text: "a"}, {Kind: api.Char, N: 65}, {Kind: api.Proc, N: 27}, whole(-1 << 61), {Kind: api.Symbol, Text: "b"},
	}
}

// Registers of what coder makes: the first ones hold values, the others raw numbers.
const (
	values = 6
	raws   = 4
)

// coder makes sound code of proto 1 whose instructions read what they want: registers are all written first. Whether it is right is another thing.
type coder struct {
	dice
	ins      []api.RIns
	exits    []api.Exit
	isShared bool // exits may be those of several instructions
}

func (k *coder) code(length int) api.Code {
	k.ins, k.exits = nil, nil
	for r := 2; r < values+raws; r++ {
		k.put(k.begin(r))
	}
	for range length {
		k.instruction()
	}
	k.put(k.end())
	for i := range k.ins {
		place := &k.ins[i].A
		switch k.ins[i].Op {
		case api.RJump:
		case api.RIf:
			place = &k.ins[i].B
		default:
			continue
		}
		*place = i + 1 + k.below(min(8, len(k.ins)-i-1))
		if k.below(5) == 0 {
			*place = k.below(len(k.ins))
		}
	}
	return api.Code{Proto: 1, Regs: values + raws, Ins: k.ins, Exits: k.exits, Consts: ownKinds(), Raws: []int64{0, 1, 2, -3, 1 << 60, 1<<61 - 1, -1 << 61}, Names: []string{"g", "h"}}
}

func (k *coder) put(all ...api.RIns) { k.ins = append(k.ins, all...) }

func (k *coder) value() int { return k.below(values) }

func (k *coder) raw() int { return values + k.below(raws) }

// begin is what lets a register hold something at first: what is known, or not.
func (k *coder) begin(r int) api.RIns {
	switch {
	case k.below(3) == 0:
		return k.load(r)
	case r >= values:
		k.exits = append(k.exits, api.Exit{Frames: []api.Frame{{Proto: 1, Self: api.Loc{Kind: api.InSelf}, Slots: []api.Loc{{N: 0}, {N: 1}}}}})
		return exits(len(k.exits)-1, in(api.RUnbox, r, k.below(2)))
	}
	return in(api.RFree, r, k.below(3))
}

func (k *coder) load(r int) api.RIns {
	switch {
	case r >= values:
		return in(api.RRaw, r, k.below(7))
	case k.below(4) == 0:
		return in(api.RConst, r, k.below(len(manyKinds())), 3)
	}
	return in(api.RConst, r, k.below(len(ownKinds())))
}

func (k *coder) exit() int {
	if k.isShared && len(k.exits) > 0 && k.below(3) > 0 {
		return len(k.exits) - 1 - k.below(min(2, len(k.exits)))
	}
	e := api.Exit{Frames: []api.Frame{{Proto: 1, Self: k.loc(), Slots: []api.Loc{k.loc(), k.loc()}}}}
	if k.below(4) == 0 {
		outer := api.Frame{Proto: 1, Pc: 5, Self: api.Loc{Kind: api.InSelf}, Slots: []api.Loc{k.loc(), k.loc(), k.loc()}}
		e.Frames = append([]api.Frame{outer}, e.Frames...)
	}
	k.exits = append(k.exits, e)
	return len(k.exits) - 1
}

func (k *coder) loc() api.Loc {
	switch k.below(5) {
	case 0:
		return api.Loc{Kind: api.InSelf}
	case 1:
		return api.Loc{Kind: api.InConst, N: k.below(len(ownKinds()))}
	case 2:
		return api.Loc{Kind: api.InRaw, N: k.raw()}
	}
	return api.Loc{N: k.value()}
}

func (k *coder) end() api.RIns {
	switch k.below(3) {
	case 0:
		n := k.below(3)
		return in(api.RTail, k.below(values-n), n)
	case 1:
		return exits(k.exit(), in(api.RExit))
	}
	return in(api.RReturn, k.value())
}

func (k *coder) instruction() {
	switch k.below(30) {
	case 0, 1, 2:
		k.put(k.load(k.below(values + raws)))
	case 3, 4:
		k.put(exits(k.exit(), in(pick(&k.dice, api.RAdd, api.RSub, api.RMul), k.raw(), k.raw(), k.raw())))
	case 5, 6, 7, 8, 9:
		k.put(in(pick(&k.dice, api.RLess, api.RSame), k.value(), k.raw(), k.raw()))
	case 10, 11, 12:
		k.put(in(api.RBox, k.value(), k.raw()))
	case 13:
		k.put(exits(k.exit(), in(api.RUnbox, k.raw(), k.value())))
	case 14:
		a, b := k.value(), k.raw()
		k.put(in(api.RBox, a, b), in(api.RMove, k.value(), a), exits(k.exit(), in(api.RUnbox, k.raw(), a)))
	case 15, 16, 17, 18:
		k.put(in(api.RMove, k.value(), k.value()), in(api.RMove, k.raw(), k.raw()))
	case 19, 20, 21, 22, 23, 24:
		k.put(in(api.RIf, k.value()))
	case 25:
		k.put(in(api.RJump))
	case 26:
		k.put(k.end())
	default:
		k.other()
	}
}

func (k *coder) other() {
	a, b := k.value(), k.value()
	switch k.below(10) {
	case 0:
		k.put(in(api.RFree, a, k.below(3)))
	case 1:
		k.put(exits(k.exit(), in(api.RGlobal, a, k.below(2))))
	case 2:
		k.put(exits(k.exit(), in(api.RSetGlo, a, k.below(2))))
	case 3:
		k.put(exits(k.exit(), in(pick(&k.dice, api.RCar, api.RCdr), a, b)))
	case 4:
		k.put(exits(k.exit(), in(api.RIs, a, 1)), in(api.RFreeOf, b, a, k.below(3)))
	case 5:
		k.put(in(api.RNew, a, b))
	case 6:
		k.put(exits(k.exit(), in(api.RLoad, b, a)))
	case 7:
		k.put(in(api.RNew, a, b), in(api.RSave, a, k.value()))
	case 8:
		name := pick(&k.dice, "not", "not", "display", "pair?", "newline")
		k.put(exits(k.exit(), in(api.RPrim, a, primitive(name), b, api.Prims()[primitive(name)].Least)))
	case 9:
		k.put(exits(k.exit(), in(api.RPrim, a, primitive(pick(&k.dice, "cons", "eq?", "+", "set-car!")), k.below(values-1), 2)))
	}
}
