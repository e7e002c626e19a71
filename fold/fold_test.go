package fold_test

import (
	"reflect"
	"slices"
	"testing"

	"tandem/api"
	"tandem/fold"
)

// small is sound code of proto 1 of the roomy program.
func small(ins ...api.RIns) api.Code {
	self := api.Loc{Kind: api.InSelf}
	return api.Code{
		Proto: 1, Regs: 12, Ins: ins, Consts: ownKinds(), Raws: []int64{0, 2, 3, -7, 1<<61 - 1, -1 << 61}, Names: []string{"g"},
		Exits: []api.Exit{
			{Frames: []api.Frame{{Proto: 1, Self: self, Slots: []api.Loc{{N: 0}, {N: 1}}}}},
			{Frames: []api.Frame{{Proto: 1, Self: self, Slots: []api.Loc{{N: 2}, {Kind: api.InRaw, N: 3}}}}},
			{Frames: []api.Frame{{Proto: 1, Pc: 5, Self: self, Slots: []api.Loc{{N: 0}, {Kind: api.InConst}, {N: 4}}}, {Proto: 1, Self: api.Loc{N: 5}, Slots: []api.Loc{{N: 0}, {Kind: api.InConst, N: 1}}}}},
		},
	}
}

// plainly is code with what its constants and raw numbers are in the place of their numbers: two codes that are alike by it do the same.
func plainly(c api.Code) [][2]any {
	var all [][2]any
	for _, x := range c.Ins {
		var what any
		switch {
		case x.Op == api.RRaw:
			what, x.B = c.Raws[x.B], 0
		case x.Op == api.RConst && x.C == 0:
			what, x.B = c.Consts[x.B], 0
		}
		all = append(all, [2]any{x, what})
	}
	return all
}

// folds holds that code is folded to these instructions; a constant or a raw number may be one that is put behind small's.
func folds(t *testing.T, what string, c api.Code, want ...api.RIns) {
	t.Helper()
	got := folded(t, roomy(t), c)
	more := small(want...)
	more.Consts = append(more.Consts, whole(5), whole(-7), whole(2))
	more.Raws = append(more.Raws, 5, 6, -21, -1)
	if !reflect.DeepEqual(plainly(got), plainly(more)) {
		t.Errorf("%s: %s\nof %s", what, told(got), told(c))
	}
}

// Constants of small, and of folds, by what they are.
const (
	isFalse = iota
	isVoid
	isThree
	isTrue
	isEmpty
	isSymbol
	isChar
	isNot
	isLeast
	isOtherSymbol
	isFive
	isMinusSeven
	isTwo
)

const (
	rawZero = iota
	rawTwo
	rawThree
	rawMinusSeven
	rawMost
	rawLeast
	rawFive
	rawSix
	rawMinus21
	rawMinusOne
)

// TestExample: the document's.
func TestExample(t *testing.T) {
	folds(t, "the example", small(in(api.RRaw, 0, rawTwo), in(api.RRaw, 1, rawThree), in(api.RAdd, 2, 0, 1), in(api.RBox, 3, 2), in(api.RReturn, 3)),
		in(api.RConst, 3, isFive), in(api.RReturn, 3))
}

// TestLeftAsItIs: code that is not sound, or has slots or maps already.
func TestLeftAsItIs(t *testing.T) {
	ps := roomy(t)
	long := []api.RIns{in(api.RRaw, 2), in(api.RMove, 3, 0), in(api.RReturn, 0)}
	for what, turn := range map[string]func(c *api.Code){
		"a register too many": func(c *api.Code) { c.Ins[1].A = 12 },
		"no end":              func(c *api.Code) { c.Ins = c.Ins[:2] },
		"no instruction":      func(c *api.Code) { c.Ins = nil },
		"no proto":            func(c *api.Code) { c.Proto = 3 },
		"RSpill":              func(c *api.Code) { c.Slots = 1; c.Ins[1] = in(api.RSpill, 0) },
		"RFill":               func(c *api.Code) { c.Slots = 1; c.Ins[1] = in(api.RFill, 0) },
		"maps":                func(c *api.Code) { c.Maps = [][]int{{0}, {0}, {0}} },
		"empty maps":          func(c *api.Code) { c.Maps = [][]int{nil, nil, nil} },
		"wrong maps":          func(c *api.Code) { c.Maps = [][]int{nil} },
		"a deep constant":     func(c *api.Code) { c.Consts = []api.Datum{deep(100000)} },
		"a wrong exit":        func(c *api.Code) { c.Exits[0].Frames = nil },
	} {
		c := small(slices.Clone(long)...)
		turn(&c)
		if got := fold.Code(ps, c); !reflect.DeepEqual(got, c) {
			t.Errorf("%s: %s", what, told(got))
		}
	}
	if got := fold.Code(nil, small(long...)); len(got.Ins) != 3 {
		t.Errorf("no program: %s", told(got))
	}
	if got := fold.Code(nil, api.Code{}); !reflect.DeepEqual(got, api.Code{}) {
		t.Errorf("no code: %s", told(got))
	}
	c := small(long...)
	c.Slots, c.Maps = 7, [][]int{}
	folds(t, "slots and an empty list of maps", c, in(api.RReturn, 0))
}

// deep is a list in lists, that many deep.
func deep(n int) api.Datum {
	d := api.Datum{Kind: api.List}
	for range n {
		d = api.Datum{Kind: api.List, Items: []api.Datum{d}, Rest: []api.Datum{{Kind: api.Vector, Items: []api.Datum{whole(9)}}}}
	}
	return d
}

// TestNumbers: what raw numbers come to; beyond the fixnums that is the exit.
func TestNumbers(t *testing.T) {
	for _, r := range []struct {
		op, a, b int
		want     int
	}{
		{api.RAdd, rawTwo, rawThree, rawFive}, {api.RSub, rawTwo, rawThree, rawMinusOne}, {api.RMul, rawTwo, rawThree, rawSix}, {api.RMul, rawThree, rawMinusSeven, rawMinus21},
		{api.RAdd, rawMost, rawZero, rawMost}, {api.RSub, rawLeast, rawZero, rawLeast}, {api.RSub, rawMost, rawMost, rawZero}, {api.RAdd, rawMost, rawLeast, rawMinusOne},
		{api.RAdd, rawMost, rawTwo, -1}, {api.RSub, rawLeast, rawTwo, -1}, {api.RAdd, rawLeast, rawMinusSeven, -1}, {api.RSub, rawZero, rawLeast, -1}, {api.RMul, rawMost, rawMost, -1}, {api.RMul, rawLeast, rawLeast, -1}, {api.RMul, rawLeast, rawMinusSeven, -1}, {api.RMul, rawMost, rawTwo, -1},
	} {
		c := small(in(api.RRaw, 6, r.a), in(api.RRaw, 7, r.b), in(api.RConst, 2), in(r.op, 3, 6, 7, 0, 2), in(api.RExit, 0, 0, 0, 0, 1))
		if r.want < 0 {
			c.Exits[2] = c.Exits[0]
			folds(t, "beyond", c, exits(2, in(api.RExit)))
		} else {
			folds(t, "a number", c, in(api.RConst, 2), in(api.RRaw, 3, r.want), exits(1, in(api.RExit)))
		}
	}
	for _, r := range []struct{ op, a, b, want int }{
		{api.RLess, rawTwo, rawThree, isTrue}, {api.RLess, rawThree, rawTwo, isFalse}, {api.RLess, rawTwo, rawTwo, isFalse}, {api.RLess, rawLeast, rawMost, isTrue},
		{api.RSame, rawTwo, rawTwo, isTrue}, {api.RSame, rawTwo, rawThree, isFalse}, {api.RSame, rawLeast, rawMost, isFalse},
	} {
		folds(t, "a comparison", small(in(api.RRaw, 6, r.a), in(api.RRaw, 7, r.b), in(r.op, 2, 6, 7), in(api.RReturn, 2)), in(api.RConst, 2, r.want), in(api.RReturn, 2))
	}
}

// TestValues: what is known of values.
func TestValues(t *testing.T) {
	for _, r := range []struct {
		what string
		ins  []api.RIns
		want []api.RIns
	}{
		{"a number that is unboxed again", []api.RIns{in(api.RRaw, 6, rawThree), in(api.RBox, 7, 6), in(api.RMove, 8, 7), in(api.RUnbox, 9, 8), in(api.RMove, 3, 9), in(api.RConst, 2), exits(1, in(api.RExit))},
			[]api.RIns{in(api.RRaw, 3, rawThree), in(api.RConst, 2), exits(1, in(api.RExit))}},
		{"a constant that is unboxed", []api.RIns{in(api.RConst, 7, isThree), in(api.RUnbox, 3, 7), in(api.RConst, 2), exits(1, in(api.RExit))},
			[]api.RIns{in(api.RRaw, 3, rawThree), in(api.RConst, 2), exits(1, in(api.RExit))}},
		{"a proto's number that is unboxed", []api.RIns{in(api.RConst, 7, 0, 3), in(api.RUnbox, 3, 7), in(api.RConst, 2), exits(1, in(api.RExit))},
			[]api.RIns{in(api.RRaw, 3, rawThree), in(api.RConst, 2), exits(1, in(api.RExit))}},
		{"a constant that is moved", []api.RIns{in(api.RConst, 7, isSymbol), in(api.RMove, 8, 7), in(api.RReturn, 8)},
			[]api.RIns{in(api.RConst, 8, isSymbol), in(api.RReturn, 8)}},
		{"a proto's object that is moved", []api.RIns{in(api.RConst, 7, 6, 3), in(api.RMove, 8, 7), in(api.RReturn, 8)},
			[]api.RIns{in(api.RConst, 8, 6, 3), in(api.RReturn, 8)}},
		{"what is not true", []api.RIns{in(api.RConst, 7, isFalse), exits(0, in(api.RPrim, 8, primitive("not"), 7, 1)), in(api.RReturn, 8)},
			[]api.RIns{in(api.RConst, 8, isTrue), in(api.RReturn, 8)}},
		{"what is not false", []api.RIns{in(api.RUnbox, 6, 0), in(api.RBox, 7, 6), exits(0, in(api.RPrim, 8, primitive("not"), 7, 1)), in(api.RReturn, 8)},
			[]api.RIns{in(api.RUnbox, 6, 0), in(api.RConst, 8, isFalse), in(api.RReturn, 8)}},
		{"what may be false", []api.RIns{exits(0, in(api.RPrim, 8, primitive("not"), 0, 1)), in(api.RReturn, 8)},
			[]api.RIns{exits(0, in(api.RPrim, 8, primitive("not"), 0, 1)), in(api.RReturn, 8)}},
		{"another primitive", []api.RIns{in(api.RConst, 7, isThree), exits(0, in(api.RPrim, 8, primitive("number?"), 7, 1)), in(api.RReturn, 8)},
			[]api.RIns{in(api.RConst, 7, isThree), exits(0, in(api.RPrim, 8, primitive("number?"), 7, 1)), in(api.RReturn, 8)}},
		{"a list's car", []api.RIns{in(api.RConst, 7, 6, 3), in(api.RCar, 8, 7), in(api.RReturn, 8)},
			[]api.RIns{in(api.RConst, 7, 6, 3), in(api.RCar, 8, 7), in(api.RReturn, 8)}},
		{"what is in a box", []api.RIns{in(api.RNew, 7, 0), in(api.RLoad, 8, 7), in(api.RReturn, 8)},
			[]api.RIns{in(api.RNew, 7, 0), in(api.RLoad, 8, 7), in(api.RReturn, 8)}},
		{"a raw number where a value is wanted", []api.RIns{in(api.RRaw, 7, rawTwo), in(api.RIf, 7, 3), in(api.RReturn, 0), in(api.RReturn, 1)},
			[]api.RIns{in(api.RRaw, 7, rawTwo), in(api.RIf, 7, 3), in(api.RReturn, 0), in(api.RReturn, 1)}},
		{"a move to itself", []api.RIns{in(api.RMove, 0, 0), in(api.RReturn, 0)}, []api.RIns{in(api.RReturn, 0)}},
	} {
		folds(t, r.what, small(r.ins...), r.want...)
	}
}

// TestGuardsThatAlwaysFail: an exit stands in their place, and nothing behind them.
func TestGuardsThatAlwaysFail(t *testing.T) {
	boxed := []api.RIns{in(api.RUnbox, 6, 0), in(api.RBox, 7, 6)}
	compared := []api.RIns{in(api.RUnbox, 6, 0), in(api.RLess, 7, 6, 6)}
	for _, r := range []struct {
		what  string
		ins   []api.RIns
		stays int // how many of ins
		guard api.RIns
	}{
		{"no number", []api.RIns{in(api.RConst, 7, isSymbol)}, 0, in(api.RUnbox, 8, 7)},
		{"a great number", []api.RIns{in(api.RConst, 7, 8, 3)}, 0, in(api.RUnbox, 8, 7)},
		{"undefined", []api.RIns{in(api.RConst, 7, 4, 3)}, 0, in(api.RUnbox, 8, 7)},
		{"a comparison is no number", compared, 1, in(api.RUnbox, 8, 7)},
		{"a box is no number", []api.RIns{in(api.RNew, 7, 0)}, 0, in(api.RUnbox, 8, 7)},
		{"a number has no car", boxed, 1, in(api.RCar, 8, 7)},
		{"a number has no cdr", []api.RIns{in(api.RConst, 7, isThree)}, 0, in(api.RCdr, 8, 7)},
		{"the empty list has no car", []api.RIns{in(api.RConst, 7, isEmpty)}, 0, in(api.RCar, 8, 7)},
		{"a box has no car", []api.RIns{in(api.RNew, 7, 0)}, 0, in(api.RCar, 8, 7)},
		{"a number is no closure", boxed, 1, in(api.RIs, 7, 1)},
		{"a constant is no closure", []api.RIns{in(api.RConst, 7, 5, 3)}, 0, in(api.RIs, 7, 1)},
		{"a box is no closure", []api.RIns{in(api.RNew, 7, 0)}, 0, in(api.RIs, 7, 1)},
		{"a number is no box", boxed, 1, in(api.RLoad, 8, 7)},
		{"a constant is no box", []api.RIns{in(api.RConst, 7, 6, 3)}, 0, in(api.RLoad, 8, 7)},
		{"truth is no box", []api.RIns{in(api.RConst, 7, isTrue)}, 0, in(api.RLoad, 8, 7)},
	} {
		c := small(append(slices.Clone(r.ins), exits(0, r.guard), in(api.RReturn, 0))...)
		folds(t, r.what, c, append(slices.Clone(r.ins[:r.stays]), exits(0, in(api.RExit)))...)
	}
}

// TestGuardsThatMayFail stay, though nobody wants what they write.
func TestGuardsThatMayFail(t *testing.T) {
	for _, x := range []api.RIns{
		in(api.RGlobal, 7), in(api.RSetGlo, 0), in(api.RUnbox, 7, 0), in(api.RPrim, 7, primitive("car"), 0, 1), in(api.RPrim, 7, primitive("cons"), 0, 2), in(api.RCar, 7, 0), in(api.RCdr, 7, 0), in(api.RIs, 0, 1), in(api.RLoad, 7, 0),
	} {
		ins := []api.RIns{exits(2, x), in(api.RReturn, 0)}
		c := small(ins...)
		c.Exits[2] = c.Exits[0]
		folds(t, "a guard", c, ins...)
	}
	for _, op := range []int{api.RAdd, api.RSub, api.RMul} {
		ins := []api.RIns{in(api.RUnbox, 6, 0), in(op, 7, 6, 6), in(api.RReturn, 0)}
		folds(t, "a sum", small(ins...), ins...)
	}
	ins := []api.RIns{in(api.RLoad, 7, 0), in(api.RSave, 0, 1), in(api.RReturn, 1)}
	folds(t, "RSave", small(ins...), ins...)
}

// TestNotWanted: what does nothing but write a register that nobody wants.
func TestNotWanted(t *testing.T) {
	for _, x := range []api.RIns{
		in(api.RConst, 7), in(api.RConst, 7, 6, 3), in(api.RRaw, 7), in(api.RMove, 7, 0), in(api.RFree, 7, 2), in(api.RFreeOf, 7, 0, 9), in(api.RNew, 7, 0),
	} {
		folds(t, "once", small(x, in(api.RReturn, 0)), in(api.RReturn, 0))
		folds(t, "written again", small(x, in(api.RGlobal, 7), in(api.RReturn, 7)), in(api.RGlobal, 7), in(api.RReturn, 7))
		folds(t, "for what is not wanted", small(x, in(api.RNew, 8, 7), in(api.RMove, 9, 8), in(api.RReturn, 0)), in(api.RReturn, 0))
		folds(t, "from turn to turn", small(x, in(api.RMove, 8, 7), in(api.RMove, 7, 8), exits(0, in(api.RUnbox, 6, 1)), in(api.RJump, 1)), exits(0, in(api.RUnbox, 6, 1)), in(api.RJump, 0))
		if x.Op != api.RRaw {
			ins := []api.RIns{x, in(api.RIf, 0, 3), in(api.RReturn, 7), in(api.RReturn, 0)}
			folds(t, "on one way", small(ins...), ins...)
		}
	}
	unboxed := in(api.RUnbox, 6, 0)
	for _, x := range []api.RIns{in(api.RBox, 7, 6), in(api.RLess, 7, 6, 6), in(api.RSame, 7, 6, 6)} {
		folds(t, "of a raw number", small(unboxed, x, in(api.RReturn, 0)), unboxed, in(api.RReturn, 0))
		folds(t, "that is wanted", small(unboxed, x, in(api.RReturn, 7)), unboxed, x, in(api.RReturn, 7))
	}
}

// TestWantedByReaders: each register that an instruction reads is wanted ahead of it.
func TestWantedByReaders(t *testing.T) {
	values, numbers := []api.RIns{in(api.RFree, 6, 0), in(api.RFree, 7, 1), in(api.RFree, 8, 2)}, []api.RIns{in(api.RUnbox, 6, 0), in(api.RUnbox, 7, 1)}
	for _, r := range []struct {
		loads []api.RIns
		ins   []api.RIns
	}{
		{values[:1], []api.RIns{in(api.RMove, 9, 6), in(api.RReturn, 9)}},
		{values[:1], []api.RIns{in(api.RFreeOf, 9, 6, 7), in(api.RReturn, 9)}},
		{values[:1], []api.RIns{in(api.RNew, 9, 6), in(api.RReturn, 9)}},
		{values[:1], []api.RIns{in(api.RSetGlo, 6), in(api.RReturn, 0)}},
		{values[:1], []api.RIns{in(api.RUnbox, 9, 6), in(api.RReturn, 0)}},
		{values[:1], []api.RIns{in(api.RCar, 9, 6), in(api.RReturn, 0)}},
		{values[:1], []api.RIns{in(api.RCdr, 9, 6), in(api.RReturn, 0)}},
		{values[:1], []api.RIns{in(api.RIs, 6, 1), in(api.RReturn, 0)}},
		{values[:1], []api.RIns{in(api.RLoad, 9, 6), in(api.RReturn, 0)}},
		{values[:2], []api.RIns{in(api.RSave, 6, 7), in(api.RReturn, 0)}},
		{values[:1], []api.RIns{in(api.RIf, 6, 3), in(api.RReturn, 0), in(api.RReturn, 1)}},
		{values[:1], []api.RIns{in(api.RReturn, 6)}},
		{values[:1], []api.RIns{in(api.RTail, 6)}},
		{values, []api.RIns{in(api.RTail, 6, 2)}},
		{values, []api.RIns{in(api.RPrim, 9, primitive("vector-set!"), 6, 3), in(api.RReturn, 0)}},
		{nil, []api.RIns{in(api.RPrim, 9, primitive("newline"), 12), in(api.RReturn, 0)}},
		{numbers[:1], []api.RIns{in(api.RBox, 9, 6), in(api.RReturn, 9)}},
		{numbers, []api.RIns{in(api.RAdd, 9, 6, 7), in(api.RReturn, 0)}},
		{numbers, []api.RIns{in(api.RSub, 9, 6, 7), in(api.RReturn, 0)}},
		{numbers, []api.RIns{in(api.RMul, 9, 6, 7), in(api.RReturn, 0)}},
		{numbers, []api.RIns{in(api.RLess, 9, 6, 7), in(api.RReturn, 9)}},
		{numbers, []api.RIns{in(api.RSame, 9, 6, 7), in(api.RReturn, 9)}},
	} {
		want := append(slices.Clone(r.loads), r.ins...)
		folds(t, "what is read", small(want...), want...)
		loads := append(slices.Clone(r.loads), in(api.RFree, 10), in(api.RMove, 11, 10))
		c := small(append(loads, r.ins...)...)
		for i := range c.Ins {
			if c.Ins[i].Op == api.RIf {
				c.Ins[i].B += 2
			}
		}
		folds(t, "what is read, and what is not", c, want...)
	}
}

// TestWantedByExits: what the exit of what may go there reads, it alone.
func TestWantedByExits(t *testing.T) {
	loads := []api.RIns{in(api.RFree, 2, 0), in(api.RUnbox, 3, 0), in(api.RFree, 4, 1), in(api.RFree, 5, 2)}
	for _, guard := range []api.RIns{
		in(api.RGlobal, 7), in(api.RSetGlo, 0), in(api.RUnbox, 7, 0), in(api.RPrim, 7, primitive("car"), 0, 1), in(api.RCar, 7, 0), in(api.RCdr, 7, 0), in(api.RIs, 0, 1), in(api.RLoad, 7, 0), in(api.RExit),
	} {
		for e, want := range [][]int{{1}, {0, 1}, {1, 2, 3}} {
			var left []api.RIns
			for _, i := range want {
				left = append(left, loads[i])
			}
			ins := []api.RIns{exits(e, guard)}
			if guard.Op != api.RExit {
				ins = append(ins, in(api.RReturn, 1))
			}
			folds(t, "an exit", small(append(slices.Clone(loads), ins...)...), append(left, ins...)...)
		}
	}
	first, again := in(api.RFree, 4, 0), in(api.RFree, 4, 1)
	guards := func(between ...api.RIns) []api.RIns {
		all := []api.RIns{first, in(api.RFree, 5, 2), exits(2, in(api.RGlobal, 7))}
		all = append(all, between...)
		return append(all, exits(2, in(api.RGlobal, 8)), exits(2, in(api.RGlobal, 9)), in(api.RReturn, 1))
	}
	folds(t, "written between two guards of one exit", small(guards(again)...), guards(again)...)
	folds(t, "written twice between them", small(guards(first, again)...), guards(again)...)
	apart := []api.RIns{first, in(api.RFree, 5, 2), in(api.RIf, 0, 6), exits(2, in(api.RGlobal, 7)), again, in(api.RJump, 7), in(api.RFree, 4, 2), exits(2, in(api.RGlobal, 8)), in(api.RReturn, 1)}
	folds(t, "written in several rows between them", small(apart...), apart...)
	c := small(in(api.RFree, 4, 0), in(api.RFree, 6, 1), exits(2, in(api.RGlobal, 7)), in(api.RFree, 4, 1), in(api.RFree, 6, 2), exits(2, in(api.RGlobal, 8)), in(api.RReturn, 1))
	c.Exits[2].Frames[0].Self, c.Exits[2].Frames[1].Self = api.Loc{N: 6}, api.Loc{N: 1}
	folds(t, "what an exit reads first last", c, c.Ins...)
	folds(t, "written by the first of them", small(first, in(api.RFree, 5, 2), exits(2, in(api.RGlobal, 4)), exits(2, in(api.RGlobal, 5)), exits(2, in(api.RGlobal, 7)), in(api.RReturn, 1)),
		first, in(api.RFree, 5, 2), exits(2, in(api.RGlobal, 4)), exits(2, in(api.RGlobal, 5)), exits(2, in(api.RGlobal, 7)), in(api.RReturn, 1))
}

// TestChoices: where an RIf goes when it is known what it asks, or when that is one place.
func TestChoices(t *testing.T) {
	ask := func(ins ...api.RIns) api.Code {
		n := len(ins)
		return small(append(slices.Clone(ins), in(api.RIf, 7, n+2), in(api.RReturn, 0), in(api.RReturn, 1))...)
	}
	for _, ins := range [][]api.RIns{
		{in(api.RConst, 7, isVoid)}, {in(api.RConst, 7, isTrue)}, {in(api.RConst, 7, isThree)}, {in(api.RConst, 7, isEmpty)}, {in(api.RConst, 7, isNot)}, {in(api.RConst, 7, isChar)},
		{in(api.RConst, 7, 0, 3)}, {in(api.RConst, 7, 2, 3)}, {in(api.RConst, 7, 3, 3)}, {in(api.RConst, 7, 4, 3)}, {in(api.RConst, 7, 6, 3)}, {in(api.RConst, 7, 8, 3)}, {in(api.RNew, 7, 0)},
		{in(api.RRaw, 6, rawTwo), in(api.RSame, 7, 6, 6)},
	} {
		folds(t, "true", ask(ins...), in(api.RReturn, 0))
	}
	for _, ins := range [][]api.RIns{
		{in(api.RConst, 7, isFalse)}, {in(api.RConst, 7, 1, 3)}, {in(api.RRaw, 6, rawTwo), in(api.RLess, 7, 6, 6)}, {in(api.RConst, 8, isFalse), in(api.RMove, 7, 8)},
	} {
		folds(t, "false", ask(ins...), in(api.RReturn, 1))
	}
	unboxed := in(api.RUnbox, 6, 0)
	folds(t, "a number is true", ask(unboxed, in(api.RBox, 7, 6)), unboxed, in(api.RReturn, 0))
	for _, ins := range [][]api.RIns{{in(api.RFree, 7)}, {in(api.RGlobal, 7)}, {unboxed, in(api.RLess, 7, 6, 6)}} {
		folds(t, "either", ask(ins...), ask(ins...).Ins...)
	}
	folds(t, "one place", small(in(api.RIf, 0, 1), in(api.RReturn, 0)), in(api.RReturn, 0))
	folds(t, "one place by jumps", small(in(api.RIf, 0, 2), in(api.RJump, 3), in(api.RJump, 3), in(api.RReturn, 1)), in(api.RReturn, 1))
	folds(t, "one place behind what is not wanted", small(in(api.RLess, 7, 6, 6), in(api.RIf, 7, 3), in(api.RConst, 8), in(api.RReturn, 1)), in(api.RReturn, 1))
}

// TestMeetings: what is known where ways meet.
func TestMeetings(t *testing.T) {
	meet := func(a, b api.RIns, then ...api.RIns) api.Code {
		return small(append([]api.RIns{in(api.RIf, 0, 3), a, in(api.RJump, 4), b}, then...)...)
	}
	folds(t, "one constant", meet(in(api.RConst, 7, isThree), in(api.RConst, 7, 0, 3), in(api.RReturn, 7)),
		meet(in(api.RConst, 7, isThree), in(api.RConst, 7, 0, 3), in(api.RReturn, 7)).Ins...)
	folds(t, "one constant is moved", meet(in(api.RConst, 7, isThree), in(api.RConst, 7, 0, 3), in(api.RMove, 8, 7), in(api.RReturn, 8)),
		in(api.RConst, 8, isThree), in(api.RReturn, 8))
	folds(t, "two true ones", meet(in(api.RConst, 7, isThree), in(api.RConst, 7, isLeast), in(api.RIf, 7, 6), in(api.RReturn, 0), in(api.RReturn, 1)), in(api.RReturn, 0))
	folds(t, "two objects", meet(in(api.RConst, 7, 6, 3), in(api.RConst, 7, 7, 3), in(api.RIf, 7, 6), in(api.RReturn, 0), in(api.RReturn, 1)), in(api.RReturn, 0))
	moved := meet(in(api.RConst, 7, isSymbol), in(api.RConst, 7, isOtherSymbol), in(api.RMove, 8, 7), in(api.RReturn, 8))
	folds(t, "two symbols", moved, moved.Ins...)
	moved = meet(in(api.RConst, 7, 6, 3), in(api.RConst, 7, 9, 3), in(api.RMove, 8, 7), in(api.RReturn, 8))
	folds(t, "two objects that are moved", moved, moved.Ins...)
	for _, b := range []api.RIns{in(api.RConst, 7, isFalse), in(api.RFree, 7)} {
		c := meet(in(api.RConst, 7, isThree), b, in(api.RIf, 7, 6), in(api.RReturn, 0), in(api.RReturn, 1))
		folds(t, "which may be false", c, c.Ins...)
	}
	one := small(in(api.RIf, 0, 2), in(api.RConst, 1, isFalse), in(api.RIf, 1, 4), in(api.RReturn, 0), in(api.RReturn, 1))
	folds(t, "what is there at first", one, one.Ins...)
	folds(t, "a way that is never gone", small(in(api.RConst, 7, isFalse), in(api.RConst, 8), in(api.RIf, 8, 4), in(api.RConst, 7, isTrue), in(api.RReturn, 7)), in(api.RConst, 7, isFalse), in(api.RReturn, 7))
	folds(t, "a way that always exits", small(in(api.RConst, 7), in(api.RIf, 0, 4), in(api.RConst, 7, isTrue), in(api.RCar, 8, 7), in(api.RIf, 7, 6), in(api.RReturn, 0), in(api.RReturn, 1)),
		in(api.RIf, 0, 2), in(api.RExit), in(api.RReturn, 1))
	loop := []api.RIns{in(api.RRaw, 6, rawTwo), in(api.RRaw, 7, rawThree), in(api.RBox, 8, 6), in(api.RUnbox, 6, 8), in(api.RGlobal, 9), in(api.RIf, 9, 2), in(api.RBox, 10, 6), in(api.RReturn, 10)}
	folds(t, "what stays in a loop", small(loop...), in(api.RGlobal, 9), in(api.RIf, 9, 0), in(api.RConst, 10, isTwo), in(api.RReturn, 10))
	back := small(in(api.RIf, 1, 3), in(api.RConst, 1, isFalse), in(api.RJump, 0), in(api.RReturn, 1))
	folds(t, "what comes back to the beginning", back, in(api.RIf, 1, 3), in(api.RConst, 1, isFalse), in(api.RJump, 0), in(api.RReturn, 1))
}

// TestJumps: where they lead.
func TestJumps(t *testing.T) {
	folds(t, "to the next", small(in(api.RJump, 1), in(api.RReturn, 0)), in(api.RReturn, 0))
	folds(t, "over what is not reached", small(in(api.RJump, 2), in(api.RReturn, 1), in(api.RReturn, 0)), in(api.RReturn, 0))
	folds(t, "on and on", small(in(api.RJump, 4), in(api.RReturn, 0), in(api.RJump, 1), in(api.RJump, 2), in(api.RJump, 3)), in(api.RReturn, 0))
	folds(t, "to itself", small(in(api.RJump, 0)), in(api.RJump, 0))
	folds(t, "round", small(in(api.RJump, 3), in(api.RJump, 2), in(api.RJump, 1), in(api.RJump, 1)), in(api.RJump, 0))
	folds(t, "round behind a choice", small(in(api.RIf, 0, 3), in(api.RJump, 2), in(api.RJump, 1), in(api.RReturn, 0)), in(api.RIf, 0, 2), in(api.RJump, 1), in(api.RReturn, 0))
	folds(t, "round without anything wanted", small(in(api.RConst, 7), in(api.RJump, 0)), in(api.RJump, 0))
	folds(t, "to what stands elsewhere", small(in(api.RIf, 0, 3), in(api.RGlobal, 0), in(api.RJump, 4), in(api.RReturn, 1), in(api.RSetGlo, 0), in(api.RReturn, 0)),
		in(api.RIf, 0, 4), in(api.RGlobal, 0), in(api.RSetGlo, 0), in(api.RReturn, 0), in(api.RReturn, 1))
	folds(t, "from a choice, on and on", small(in(api.RGlobal, 7), in(api.RIf, 7, 4), in(api.RSetGlo, 0), in(api.RJump, 0), in(api.RJump, 0)),
		in(api.RGlobal, 7), in(api.RIf, 7, 0), in(api.RSetGlo, 0), in(api.RJump, 0))
	folds(t, "back from both ways of a choice", small(in(api.RGlobal, 7), in(api.RIf, 7, 0), in(api.RJump, 0)), in(api.RGlobal, 7), in(api.RJump, 0))
	folds(t, "back to what nothing else leads to", small(in(api.RIf, 0, 4), in(api.RReturn, 0), in(api.RSetGlo, 0), in(api.RReturn, 1), in(api.RGlobal, 0), in(api.RJump, 2)),
		in(api.RIf, 0, 2), in(api.RReturn, 0), in(api.RGlobal, 0), in(api.RSetGlo, 0), in(api.RReturn, 1))
	two := small(in(api.RIf, 0, 3), in(api.RGlobal, 0), in(api.RJump, 4), in(api.RGlobal, 1), in(api.RSetGlo, 0), in(api.RReturn, 0))
	folds(t, "where two lead", two, two.Ins...)
	again := small(in(api.RGlobal, 0), in(api.RIf, 0, 3), in(api.RJump, 0), in(api.RReturn, 0))
	folds(t, "back to the beginning", again, again.Ins...)
	turned := small(in(api.RJump, 2), in(api.RSetGlo, 0), in(api.RGlobal, 0), in(api.RIf, 0, 5), in(api.RJump, 1), in(api.RReturn, 0))
	folds(t, "into the middle of a loop that only itself leads back to", turned, turned.Ins...)
}

// TestSize: P16.2.
func TestSize(t *testing.T) {
	one, two := small(in(api.RReturn)), small(in(api.RJump, 1), in(api.RReturn))
	if fold.Size() != 0 || fold.Size(one) != 1 || fold.Size(one, two, two) != 5 || fold.Size(api.Code{}, api.Code{Regs: -1, Ins: make([]api.RIns, 7)}) != 7 {
		t.Error("Size")
	}
}
