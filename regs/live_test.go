package regs_test

import (
	"math"
	"slices"
	"testing"

	"tandem/api"
	"tandem/regs"
)

func sameLists(a, b [][]int) bool {
	return slices.EqualFunc(a, b, func(a, b []int) bool { return slices.Equal(a, b) })
}

// reading is an exit that reads registers, as values and as raw numbers.
func reading(registers ...int) api.Exit {
	f := api.Frame{Proto: 1, Self: api.Loc{Kind: api.InSelf}}
	for i, r := range registers {
		f.Slots = append(f.Slots, api.Loc{Kind: i % 2, N: r})
	}
	return api.Exit{Frames: []api.Frame{f}}
}

// TestLive: P17.2, by a table.
func TestLive(t *testing.T) {
	all := []api.Exit{reading(3, 4), reading(), reading(5), {Frames: []api.Frame{{Self: api.Loc{N: 2}, Slots: []api.Loc{{Kind: api.InConst, N: 88}, {Kind: api.InSlot, N: 88}, {Kind: api.RawSlot, N: -1}, {Kind: api.InSelf, N: 88}, {Kind: 9, N: 88}}}, {Slots: []api.Loc{{Kind: api.InRaw, N: 1}}}}}, reading(88)}
	for what, r := range map[string]struct {
		ins  []api.RIns
		want [][]int
	}{
		"the example":                   {[]api.RIns{in(api.RMove, 1, 0), in(api.RReturn, 1)}, [][]int{{0}, {1}}},
		"nothing is written":            {[]api.RIns{in(api.RReturn, 5)}, [][]int{{5}}},
		"read and written":              {[]api.RIns{in(api.RMove, 0, 0), in(api.RReturn, 0)}, [][]int{{0}, {0}}},
		"written, and not read":         {[]api.RIns{in(api.RConst, 2), in(api.RReturn, 0)}, [][]int{{0}, {0}}},
		"written twice":                 {[]api.RIns{in(api.RMove, 1, 0), in(api.RRaw, 1), in(api.RReturn, 1)}, [][]int{{0}, {}, {1}}},
		"one way or the other":          {[]api.RIns{in(api.RIf, 0, 3), in(api.RConst, 1), in(api.RReturn, 1), in(api.RConst, 2), in(api.RReturn, 1)}, [][]int{{0, 1}, {}, {1}, {1}, {1}}},
		"round and round":               {[]api.RIns{in(api.RMove, 2, 1), in(api.RMove, 1, 0), in(api.RJump)}, [][]int{{0, 1}, {0}, {0, 1}}},
		"a loop of nobody":              {[]api.RIns{in(api.RJump)}, [][]int{{}}},
		"never reached":                 {[]api.RIns{in(api.RReturn, 0), in(api.RMove, 1, 2), in(api.RIf, 1, 0), in(api.RJump)}, [][]int{{0}, {0, 2}, {0, 1}, {0}}},
		"all operands":                  {[]api.RIns{in(api.RSave, 0, 1), in(api.RNew, 0, 1), in(api.RFreeOf, 1, 2), in(api.RBox, 2, 3), in(api.RLess, 3, 4, 5), in(api.RSame, 4, 5, 0), in(api.RReturn, 4)}, [][]int{{0, 1, 2, 3, 4, 5}, {1, 2, 3, 4, 5}, {0, 2, 3, 4, 5}, {0, 3, 4, 5}, {0, 4, 5}, {0, 5}, {4}}},
		"slots are no registers":        {[]api.RIns{in(api.RSpill, 1, 88), in(api.RFill, 2, 88), in(api.RReturn, 2)}, [][]int{{1}, {}, {2}}},
		"values of a closure":           {[]api.RIns{in(api.RFree, 1, 88), in(api.RReturn, 1)}, [][]int{{}, {1}}},
		"an exit of one that writes":    {[]api.RIns{in(api.RGlobal, 3, 88), exits(1, in(api.RCar, 2, 3)), in(api.RReturn, 2)}, [][]int{{3, 4}, {3}, {2}}},
		"an exit of one that reads":     {[]api.RIns{exits(2, in(api.RIs, 0, 88)), exits(2, in(api.RSetGlo, 1, 88)), exits(2, in(api.RLoad, 0, 2)), in(api.RReturn, 0)}, [][]int{{0, 1, 2, 5}, {1, 2, 5}, {2, 5}, {0}}},
		"guards":                        {[]api.RIns{exits(1, in(api.RUnbox, 0, 1)), exits(2, in(api.RAdd, 1, 2, 2)), exits(2, in(api.RSub, 2, 0, 3)), exits(2, in(api.RMul, 3, 2, 1)), exits(1, in(api.RCdr, 3, 3)), in(api.RReturn, 3)}, [][]int{{1, 2, 3, 5}, {0, 2, 3, 5}, {0, 1, 3, 5}, {1, 2, 5}, {3}, {3}}},
		"an exit":                       {[]api.RIns{in(api.RConst, 4), in(api.RExit)}, [][]int{{3}, {3, 4}}},
		"frames of an exit":             {[]api.RIns{exits(3, in(api.RExit))}, [][]int{{0, 1, 2}}},
		"an exit of nobody":             {[]api.RIns{exits(4, in(api.RBox, 0, 0)), exits(4, in(api.RReturn, 0)), exits(-7, in(api.RJump, 1))}, [][]int{{0}, {0}, {0}}},
		"values of a primitive":         {[]api.RIns{exits(1, in(api.RPrim, 3, 88, 2, 3)), in(api.RReturn, 3)}, [][]int{{2, 3, 4}, {3}}},
		"all values":                    {[]api.RIns{exits(1, in(api.RPrim, 5, 88, 0, 6)), in(api.RTail, 0, 5)}, [][]int{{0, 1, 2, 3, 4, 5}, {0, 1, 2, 3, 4, 5}}},
		"no value":                      {[]api.RIns{exits(1, in(api.RPrim, 0, 0, 88, 0)), exits(1, in(api.RPrim, 0, 0, math.MinInt, -1)), exits(1, in(api.RPrim, 0, 0, math.MaxInt, math.MinInt)), in(api.RReturn)}, [][]int{{}, {}, {}, {0}}},
		"a call":                        {[]api.RIns{in(api.RIf, 1, 2), in(api.RTail, 2, 3), in(api.RTail, 5), in(api.RTail, 5, math.MinInt), in(api.RTail, 4, -1)}, [][]int{{1, 2, 3, 4, 5}, {2, 3, 4, 5}, {5}, {5}, {4}}},
		"a place that is the next one":  {[]api.RIns{in(api.RIf, 0, 1), in(api.RJump, 2), in(api.RReturn, 1)}, [][]int{{0, 1}, {1}, {1}}},
		"nothing":                       {nil, [][]int{}},
		"two loops, one in the other":   {[]api.RIns{in(api.RRaw, 0), in(api.RLess, 1, 0, 2), in(api.RIf, 1, 1), in(api.RIf, 3, 0), in(api.RReturn, 4)}, [][]int{{2, 3, 4}, {0, 2, 3, 4}, {0, 1, 2, 3, 4}, {2, 3, 4}, {4}}},
		"what is read in the next turn": {[]api.RIns{in(api.RIf, 0, 2), in(api.RReturn, 1), in(api.RMove, 1, 2), in(api.RNew, 2, 0), in(api.RJump)}, [][]int{{0, 1, 2}, {1}, {0, 2}, {0, 1}, {0, 1, 2}}},
	} {
		c := api.Code{Regs: 6, Ins: r.ins, Exits: all}
		if got := regs.Live(c); !sameLists(got, r.want) {
			t.Errorf("%s: %v", what, got)
		}
		if got := modelLive(c); !sameLists(got, r.want) {
			t.Errorf("%s: the second way: %v", what, got)
		}
	}
}

// TestLiveOfWrongCode: P17.2: where something is not there that code names, there are no lists; where nothing asks for it, that is no matter.
func TestLiveOfWrongCode(t *testing.T) {
	ends := []api.RIns{in(api.RReturn)}
	whole := api.Code{Regs: 6, Exits: []api.Exit{reading(0, 5), reading()}}
	is := func(what string, want bool, c api.Code) {
		t.Helper()
		got := regs.Live(c)
		if want != (len(got) > 0) || want != (len(modelLive(c)) > 0) {
			t.Errorf("%s: %v, and %v", what, got, modelLive(c))
		}
	}
	for op, all := range letters {
		for i, letter := range []byte(all[:3]) {
			for _, n := range []int{0, 1, 5, 6, 7, -1, math.MaxInt, math.MinInt} {
				x := in(op)
				*[]*int{&x.A, &x.B, &x.C}[i] = n
				if op == api.RTail && i == 1 { // how long its row is
					continue
				}
				want := letter == '.' || n >= 0 && (letter == 'j' && n < 2 || letter != 'j' && n < 6)
				c := whole
				c.Ins = append([]api.RIns{x}, ends...)
				is(all, want, c)
				c.Ins = append([]api.RIns{in(api.RReturn)}, c.Ins...) // it is never reached
				is(all, want || letter == 'j' && n == 2, c)
			}
		}
		for _, n := range []int{0, 1, 2, -1, math.MaxInt, math.MinInt} {
			c := whole
			c.Ins = append([]api.RIns{exits(n, in(op))}, ends...)
			is("exits of "+all, n == 0 || n == 1 || len(all) < 4 || all[3] != 'E', c)
		}
		c := whole
		c.Ins = []api.RIns{in(op)}
		is("the last one "+all, all[len(all)-1] == 'x', c)
		c.Ins, c.Exits = append(c.Ins, ends...), []api.Exit{reading(0, 6), reading(-1)}
		is("an exit that reads what is not there", len(all) < 4 || all[3] != 'E', c)
		c.Ins[0].E = 1
		is("an exit that reads what is not there", len(all) < 4 || all[3] != 'E', c)
	}
	for _, op := range []int{0, 29, -1, math.MaxInt, math.MinInt} {
		is("no instruction", false, api.Code{Regs: 6, Ins: []api.RIns{in(api.RReturn), {Op: op}, in(api.RReturn)}})
	}
	for n, want := range map[int]bool{-1: false, 0: false, 1: true, 65536: true, 65537: false, math.MaxInt: false, math.MinInt: false} {
		is("registers", want, api.Code{Regs: n, Ins: ends})
	}
	is("no registers", true, api.Code{Ins: []api.RIns{in(api.RJump)}})
}

// TestLiveOfRows: P17.2: rows of registers that are there, or not.
func TestLiveOfRows(t *testing.T) {
	for _, first := range []int{0, 1, 4, 5, 6, 7, -1, math.MaxInt, math.MaxInt - 1, math.MinInt} {
		for _, n := range []int{0, 1, 2, 5, 6, 7, -1, math.MaxInt, math.MaxInt - 5, math.MinInt} {
			isRow := n <= 0 || first >= 0 && first <= 6 && n <= 6-first
			c := api.Code{Regs: 6, Exits: []api.Exit{{}}, Ins: []api.RIns{in(api.RPrim, 0, 0, first, n), in(api.RReturn)}}
			if got := regs.Live(c); isRow != (len(got) == 2) || isRow && len(got[0]) != max(0, n) {
				t.Errorf("a primitive's %d, %d: %v", first, n, got)
			}
			isCall := first >= 0 && first < 6 && (n <= 0 || n < 6-first)
			c = api.Code{Regs: 6, Ins: []api.RIns{in(api.RTail, first, n)}}
			if got := regs.Live(c); isCall != (len(got) == 1) || isCall && len(got[0]) != max(0, n)+1 {
				t.Errorf("a call's %d, %d: %v", first, n, got)
			}
		}
	}
}

// TestLiveOfMadeCode: P17.2: both ways tell the same of code that is any.
func TestLiveOfMadeCode(t *testing.T) {
	d := &dice{12345}
	count := 0
	for i := range 20000 {
		c := api.Code{Regs: 1 + d.below(9), Exits: []api.Exit{reading(), reading(d.below(4)), reading(d.below(9), d.below(9))}}
		length := 1 + d.below(16)
		for range length {
			c.Ins = append(c.Ins, api.RIns{Op: 1 + d.below(28), A: d.below(min(c.Regs, length)), B: d.below(min(c.Regs, length)), C: d.below(c.Regs), D: d.below(3), E: d.below(3)})
		}
		c.Ins = append(c.Ins, in(pick(d, api.RJump, api.RReturn), d.below(min(c.Regs, length+1))))
		if i%20 == 0 {
			c.Regs--
		}
		got, want := regs.Live(c), modelLive(c)
		if !sameLists(got, want) {
			t.Fatalf("%v, not %v: %s", got, want, told(c))
		}
		if want != nil {
			count++
		}
	}
	if count < 5000 {
		t.Errorf("%d alone can be told", count)
	}
}
