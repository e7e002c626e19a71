package rcode_test

import (
	"reflect"
	"slices"
	"testing"

	"tandem/api"
	"tandem/rcode"
)

// TestInstructions: what instructions of each Op with the operands 1, 2, 3, 4, 5 read and write, and where they lead.
func TestInstructions(t *testing.T) {
	const writes, exits, stops = 1, 2, 4
	for op, r := range map[int]struct {
		is   int
		read []int
		to   int
	}{
		0: {0, nil, 0}, 29: {0, nil, 0}, -1: {0, nil, 0},
		api.RConst: {writes, nil, 0}, api.RRaw: {writes, nil, 0}, api.RFree: {writes, nil, 0}, api.RFill: {writes, nil, 0},
		api.RMove: {writes, []int{2}, 0}, api.RFreeOf: {writes, []int{2}, 0}, api.RBox: {writes, []int{2}, 0}, api.RNew: {writes, []int{2}, 0},
		api.RGlobal: {writes | exits, nil, 0}, api.RUnbox: {writes | exits, []int{2}, 0}, api.RCar: {writes | exits, []int{2}, 0}, api.RCdr: {writes | exits, []int{2}, 0}, api.RLoad: {writes | exits, []int{2}, 0},
		api.RAdd: {writes | exits, []int{2, 3}, 0}, api.RSub: {writes | exits, []int{2, 3}, 0}, api.RMul: {writes | exits, []int{2, 3}, 0}, api.RLess: {writes, []int{2, 3}, 0}, api.RSame: {writes, []int{2, 3}, 0},
		api.RPrim: {writes | exits, []int{3, 4, 5, 6}, 0}, api.RSetGlo: {exits, []int{1}, 0}, api.RIs: {exits, []int{1}, 0}, api.RSpill: {0, []int{1}, 0}, api.RSave: {0, []int{1, 2}, 0},
		api.RJump: {stops, nil, 1}, api.RIf: {0, []int{1}, 2}, api.RReturn: {stops, []int{1}, 0}, api.RTail: {stops, []int{1, 2, 3}, 0}, api.RExit: {stops | exits, nil, 0},
	} {
		in := api.RIns{Op: op, A: 1, B: 2, C: 3, D: 4, E: 5}
		if rcode.Writes(op) != (r.is&writes != 0) || rcode.MayExit(op) != (r.is&exits != 0) || rcode.GoesOn(op) != (r.is&stops == 0) || !slices.Equal(rcode.Read(in), r.read) {
			t.Errorf("%d: %v %v %v %v", op, rcode.Writes(op), rcode.MayExit(op), rcode.GoesOn(op), rcode.Read(in))
		}
		to := rcode.Place(&in)
		if (to == nil) != (r.to == 0) || to != nil && *to != r.to {
			t.Errorf("%d leads to another place", op)
		}
		for _, field := range append(rcode.Operands(&in), to) {
			if field != nil {
				*field = 77
			}
		}
		_, row := rcode.Row(in)
		for _, n := range rcode.Read(in)[:len(r.read)-row] {
			if n != 77 {
				t.Errorf("%d: not all operands can be turned: %v", op, in)
			}
		}
	}
	for _, n := range []int{0, -1} {
		if got := rcode.Read(api.RIns{Op: api.RPrim, C: 9, D: n}); len(got) > 0 {
			t.Errorf("a primitive of %d: %v", n, got)
		}
		if got := rcode.Read(api.RIns{Op: api.RTail, A: 9, B: n}); !slices.Equal(got, []int{9}) {
			t.Errorf("a call of %d: %v", n, got)
		}
	}
}

// TestOfExit: registers that exits read.
func TestOfExit(t *testing.T) {
	e := api.Exit{Frames: []api.Frame{
		{Self: api.Loc{N: 7}, Slots: []api.Loc{{Kind: api.InRaw, N: 3}, {Kind: api.InConst, N: 1}, {Kind: api.InSlot, N: 2}}},
		{Self: api.Loc{Kind: api.InSelf}, Slots: []api.Loc{{N: 3}, {Kind: api.RawSlot, N: 4}, {N: 5}, {N: 7}}},
	}}
	if got := rcode.OfExit(e); !slices.Equal(got, []int{3, 5, 7}) {
		t.Error(got)
	}
	if got := rcode.OfExit(api.Exit{}); len(got) > 0 {
		t.Error(got)
	}
}

// TestCopied: a copy is the same, in memory of its own.
func TestCopied(t *testing.T) {
	deep := api.Datum{Kind: api.List}
	for range 100000 {
		deep = api.Datum{Kind: api.List, Items: []api.Datum{deep}}
	}
	c := api.Code{
		Proto: 1, Ins: []api.RIns{{Op: 1}}, Raws: []int64{1}, Names: []string{"g"}, Maps: [][]int{{1}, nil},
		Exits:  []api.Exit{{Frames: []api.Frame{{Slots: []api.Loc{{N: 1}}}}}},
		Consts: []api.Datum{deep, {Num: api.Num{Mag: []uint32{1}}, Rest: []api.Datum{{Items: []api.Datum{{Text: "t"}}}}}},
	}
	got := rcode.Copied(c)
	if !reflect.DeepEqual(got.Consts[1:], c.Consts[1:]) || !reflect.DeepEqual(got.Exits, c.Exits) || !reflect.DeepEqual(got.Maps, c.Maps) || !slices.Equal(got.Ins, c.Ins) || !slices.Equal(got.Raws, c.Raws) || !slices.Equal(got.Names, c.Names) {
		t.Error("not the same")
	}
	got.Ins[0].Op, got.Raws[0], got.Names[0], got.Maps[0][0] = 2, 2, "h", 2
	got.Exits[0].Frames[0].Slots[0].N, got.Consts[1].Num.Mag[0], got.Consts[1].Rest[0].Items[0].Text = 2, 2, "u"
	got.Consts[0].Items[0].Kind = 77
	if c.Ins[0].Op != 1 || c.Raws[0] != 1 || c.Names[0] != "g" || c.Maps[0][0] != 1 || c.Exits[0].Frames[0].Slots[0].N != 1 || c.Consts[1].Num.Mag[0] != 1 || c.Consts[1].Rest[0].Items[0].Text != "t" || c.Consts[0].Items[0].Kind != api.List {
		t.Error("not of its own")
	}
}
