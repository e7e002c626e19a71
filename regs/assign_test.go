package regs_test

import (
	"math"
	"reflect"
	"slices"
	"testing"

	"tandem/api"
	"tandem/ir"
	"tandem/regs"
)

// small is code of proto 1 of roomy with two arguments, with three exits: of the first one's registers the first two are read, of the second one's none, of the third one's 2 and raw 3.
func small(registers int, ins ...api.RIns) api.Code {
	frame := func(self api.Loc, slots ...api.Loc) api.Exit {
		return api.Exit{Frames: []api.Frame{{Proto: 1, Self: self, Slots: slots}}}
	}
	self := api.Loc{Kind: api.InSelf}
	return api.Code{
		Proto: 1, Regs: registers, Ins: ins, Consts: ownKinds(), Raws: []int64{0, 1, 2}, Names: []string{"g", "h"},
		Exits: []api.Exit{frame(self, api.Loc{N: 0}, api.Loc{N: 1}), frame(self, self, self), frame(self, api.Loc{N: 2}, api.Loc{Kind: api.InRaw, N: 3})},
	}
}

func count(c api.Code, op int) int {
	n := 0
	for _, x := range c.Ins {
		if x.Op == op {
			n++
		}
	}
	return n
}

// TestRefused: P17.1: what is not taken; beside false there is the zero Code.
func TestRefused(t *testing.T) {
	ps := roomy(t, 2)
	is := func(what string, want bool, ps []api.Proto, c api.Code, n int) {
		t.Helper()
		got, ok := regs.Assign(ps, c, n)
		if ok != want || !ok && !reflect.DeepEqual(got, api.Code{}) {
			t.Errorf("%s: %v: %s", what, ok, told(got))
		}
	}
	plain := small(6, in(api.RMove, 5, 0), in(api.RReturn, 5))
	for n, want := range map[int]bool{7: false, 8: true, 9: true, 63: true, 64: true, 65: false, 0: false, -8: false, -1: false, math.MaxInt: false, math.MinInt: false} {
		is("registers", want, ps, plain, n)
	}
	is("no program", false, nil, plain, 8)
	wrong := plain
	wrong.Proto = 2
	is("no right exit", false, ps, wrong, 8)
	for i, turn := range []func(c *api.Code){
		func(c *api.Code) { c.Regs = 5 }, func(c *api.Code) { c.Ins = c.Ins[:1] }, func(c *api.Code) { c.Ins = nil }, func(c *api.Code) { c.Ins[0].C = 1 }, func(c *api.Code) { c.Entry = 2 }, func(c *api.Code) { c.Exits[1].Frames = nil },
		func(c *api.Code) { c.Slots = -1 }, func(c *api.Code) { c.Raws[0] = 1 << 61 }, func(c *api.Code) { c.Consts[0] = api.Datum{Kind: api.String} }, func(c *api.Code) { c.Maps = [][]int{{0}} },
		func(c *api.Code) { c.Maps = [][]int{{0}, {5}} }, func(c *api.Code) { c.Maps = [][]int{nil, nil} },
	} {
		c := copyOf(plain)
		turn(&c)
		if i < 10 && ir.Sound(ps, c) {
			t.Errorf("%d is sound", i)
		}
		is("not sound, or with maps", false, ps, c, 8)
	}
	c := copyOf(plain)
	c.Ins, c.Maps = []api.RIns{in(api.RReturn)}, [][]int{{}}
	is("one map", false, ps, c, 8)
	c = copyOf(plain)
	c.Maps = [][]int{}
	is("maps of nothing", true, ps, c, 8)
	c.Slots = 1
	is("slots alone", true, ps, c, 8)
	for _, op := range []int{api.RSpill, api.RFill} {
		c.Ins = []api.RIns{in(op), in(api.RReturn)}
		is("slots", false, ps, c, 8)
		c.Ins = []api.RIns{in(api.RReturn), in(op), in(api.RReturn)}
		is("slots, though it is never reached", false, ps, c, 8)
	}
}

// TestRoom: P17.1: how many values there may be in a row, and how many slots at the beginning.
func TestRoom(t *testing.T) {
	ps := roomy(t, 2)
	list := primitive("list")
	for n := 8; n <= 64; n++ {
		for values := n - 6; values <= n; values++ {
			for i, ins := range [][]api.RIns{
				{exits(1, in(api.RPrim, 0, list, 3, values)), in(api.RReturn, 0)}, {in(api.RTail, 2, values)}, {in(api.RReturn), in(api.RTail, 2, values)},
			} {
				c := small(3+values, ins...)
				got, ok := regs.Assign(ps, c, n)
				if ok != (values <= n-4) || !ok && !reflect.DeepEqual(got, api.Code{}) {
					t.Errorf("%d: %d values in a row with %d registers: %v", i, values, n, ok)
				}
			}
			for entry := range 2 { // the loop is behind one that pushes
				c := api.Code{Proto: 1, Regs: values + 1, Entry: entry, Ins: []api.RIns{in(api.RReturn)}}
				if _, ok := regs.Assign(roomy(t, values), c, n); ok != (values+entry <= n-4) {
					t.Errorf("%d slots with %d registers: %v", values+entry, n, ok)
				}
			}
		}
	}
}

// alone tells whether a code, which is right, comes to the same with few registers, as often as it is run.
func alone(t *testing.T, what string, ps []api.Proto, c api.Code, n int) api.Code {
	t.Helper()
	got := assigned(t, ps, c, n)
	ends := map[string]int{}
	alike(t, &dice{uint64(n) + 99}, ends, ps, c, got, 40)
	if ends[broken] > 0 {
		t.Fatalf("%s breaks: %s", what, told(c))
	}
	return got
}

// TestFits: what fits into registers gets no slots, no more instructions, and moves only where a row asks for it.
func TestFits(t *testing.T) {
	ps := roomy(t, 2)
	cons := primitive("cons")
	for what, r := range map[string]struct {
		registers, n int
		ins          []api.RIns
		maps         []int // how many values are wanted ahead of each
	}{
		"the example":           {4, 8, []api.RIns{in(api.RMove, 1, 0), in(api.RReturn, 1)}, []int{1}},
		"raw numbers":           {9, 8, []api.RIns{exits(1, in(api.RUnbox, 5, 0)), in(api.RRaw, 6, 1), exits(1, in(api.RAdd, 7, 5, 6)), in(api.RBox, 8, 7), in(api.RReturn, 8)}, []int{1, 0, 0, 0, 1}},
		"an exit's":             {9, 8, []api.RIns{exits(0, in(api.RUnbox, 5, 0)), in(api.RRaw, 6, 1), exits(0, in(api.RAdd, 7, 5, 6)), in(api.RBox, 8, 7), in(api.RReturn, 8)}, []int{2, 2, 2, 0, 1}},
		"a row":                 {99, 8, []api.RIns{in(api.RFree, 50, 1), in(api.RConst, 51, 1), exits(1, in(api.RPrim, 60, cons, 50, 2)), in(api.RReturn, 60)}, []int{0, 1, 2, 1}},
		"a row of one":          {99, 8, []api.RIns{exits(1, in(api.RPrim, 60, primitive("not"), 0, 1)), in(api.RReturn, 60)}, []int{1, 1}},
		"a row of none":         {99, 8, []api.RIns{exits(1, in(api.RPrim, 60, primitive("newline"), 99, 0)), in(api.RReturn, 60)}, []int{0, 1}},
		"a call of one":         {99, 8, []api.RIns{in(api.RNew, 70, 0), in(api.RTail, 70)}, []int{1, 1}},
		"a call":                {99, 8, []api.RIns{in(api.RFree, 70, 1), in(api.RFree, 71, 2), in(api.RFree, 72, 0), in(api.RTail, 70, 2)}, []int{0, 1, 2, 3}},
		"one after another":     {99, 8, rounds(60), nil},
		"eight at once":         {99, 8, crowd(8), nil},
		"sixty-four at once":    {99, 64, crowd(64), nil},
		"a loop":                {9, 8, []api.RIns{in(api.RRaw, 5, 0), in(api.RRaw, 6, 1), in(api.RLess, 7, 5, 6), in(api.RIf, 7, 7), exits(1, in(api.RAdd, 8, 5, 6)), in(api.RMove, 5, 8), in(api.RJump, 2), in(api.RBox, 8, 5), in(api.RReturn, 8)}, []int{0, 0, 0, 1, 0, 0, 0, 0, 1}},
		"one that nobody wants": {9, 8, []api.RIns{in(api.RFree, 7, 0), exits(0, in(api.RUnbox, 6, 0)), in(api.RReturn, 0)}, []int{2, 2, 1}},
	} {
		c := small(r.registers, r.ins...)
		got := alone(t, what, ps, c, r.n)
		if got.Slots > 0 || len(got.Ins) > len(c.Ins) {
			t.Errorf("%s: %s", what, told(got))
		}
		for i, n := range r.maps {
			if len(got.Maps[i]) != n {
				t.Errorf("%s: at %d: %v", what, i, got.Maps[i])
			}
		}
	}
}

// TestMovesSaved: things that are moved share a register, where they may, and nothing is moved then.
func TestMovesSaved(t *testing.T) {
	ps := roomy(t, 2)
	for what, r := range map[string]struct {
		ins  []api.RIns
		want int // how many RMoves stay
	}{
		"one after another":            {[]api.RIns{in(api.RNew, 5, 0), in(api.RMove, 6, 5), in(api.RMove, 7, 6), in(api.RMove, 8, 7), in(api.RReturn, 8)}, 0},
		"from an argument":             {[]api.RIns{in(api.RMove, 5, 1), in(api.RMove, 6, 5), in(api.RReturn, 6)}, 0},
		"to an argument":               {[]api.RIns{in(api.RNew, 5, 1), in(api.RMove, 1, 5), in(api.RNew, 6, 0), in(api.RNew, 7, 6), in(api.RNew, 8, 7), in(api.RNew, 9, 8), in(api.RNew, 10, 9), in(api.RSave, 10, 1), in(api.RReturn, 1)}, 0},
		"raw numbers":                  {[]api.RIns{exits(1, in(api.RUnbox, 5, 0)), in(api.RMove, 6, 5), in(api.RBox, 7, 6), in(api.RReturn, 7)}, 0},
		"an argument's register again": {[]api.RIns{exits(1, in(api.RUnbox, 0, 0)), in(api.RMove, 5, 0), in(api.RBox, 6, 5), in(api.RReturn, 6)}, 0},
		"a register above again":       {[]api.RIns{in(api.RFree, 2, 1), in(api.RNew, 3, 2), exits(1, in(api.RUnbox, 2, 0)), in(api.RMove, 5, 2), in(api.RBox, 6, 5), in(api.RSave, 3, 6), in(api.RReturn, 6)}, 0},
		"both are wanted":              {[]api.RIns{in(api.RNew, 5, 0), in(api.RMove, 6, 5), in(api.RNew, 5, 1), in(api.RSave, 5, 6), in(api.RReturn, 6)}, 1},
		"into a row":                   {[]api.RIns{in(api.RMove, 50, 0), in(api.RMove, 51, 1), in(api.RMove, 52, 0), in(api.RTail, 50, 2)}, 3},
		"back in a loop":               {[]api.RIns{in(api.RFree, 5, 0), exits(1, in(api.RCar, 6, 5)), in(api.RMove, 5, 6), in(api.RIf, 5, 1), in(api.RReturn, 5)}, 0},
		"to itself":                    {[]api.RIns{in(api.RMove, 0, 0), in(api.RReturn, 0)}, 0},
		"to where nobody wants it":     {[]api.RIns{in(api.RMove, 5, 0), in(api.RReturn, 1)}, 0},
	} {
		got := alone(t, what, ps, small(60, r.ins...), 8)
		if count(got, api.RMove) > r.want || got.Slots > 0 || len(got.Ins) > len(r.ins) {
			t.Errorf("%s: %s", what, told(got))
		}
	}
}

// TestLoopsFirst: what is wanted in a loop stays in registers; what is wanted ahead of it and behind it alone does not, though that is oftener.
func TestLoopsFirst(t *testing.T) {
	ps := roomy(t, 2)
	var ins []api.RIns
	for r := range 15 { // 20 to 22 are wanted in the loop
		ins = append(ins, in(api.RFree, 20+r, r%3), in(api.RNew, 20+r, 20+r))
	}
	for r := 3; r < 14; r++ {
		ins = append(ins, in(api.RSave, 20+r, 21+r), in(api.RSave, 20+r, 21+r))
	}
	ins = append(ins, in(api.RRaw, 5, 0), in(api.RRaw, 6, 1), in(api.RRaw, 7, 2))
	head := len(ins)
	ins = append(ins, in(api.RSave, 20, 21), in(api.RSave, 21, 22), in(api.RSave, 22, 20), in(api.RLess, 8, 7, 5), exits(1, in(api.RAdd, 5, 5, 6)), in(api.RIf, 8, head), in(api.RBox, 10, 5))
	for r := 3; r < 14; r++ {
		ins = append(ins, in(api.RSave, 20+r, 21+r), in(api.RSave, 20+r, 21+r))
	}
	c := small(60, append(ins, in(api.RSave, 34, 20), in(api.RSave, 20, 10), in(api.RReturn, 23))...)
	for _, n := range []int{10, 11, 12, 13} {
		got := alone(t, "a loop", ps, c, n)
		back := slices.IndexFunc(got.Ins, func(x api.RIns) bool { return x.Op == api.RIf })
		if inLoop := (api.Code{Ins: got.Ins[got.Ins[back].B:back]}); count(inLoop, api.RFill) > 0 || count(inLoop, api.RSpill) > 0 || got.Slots == 0 {
			t.Errorf("%d registers: %s", n, told(got))
		}
	}
}

// rounds are instructions that write one register after the other, and read the one before.
func rounds(n int) []api.RIns {
	var all []api.RIns
	for r := range n {
		all = append(all, in(api.RNew, r+2, r))
	}
	return append(all, in(api.RReturn, n+1))
}

// crowd are instructions that let n registers hold what is wanted, at one time; the frame's slots are not.
func crowd(n int) []api.RIns {
	var all []api.RIns
	for r := range n {
		all = append(all, in(api.RFree, r+2, r%3))
	}
	for r := range n {
		all = append(all, in(api.RNew, r+2, r+2), in(api.RSave, r+2, r+2))
	}
	return append(all, in(api.RReturn, n+1))
}

// TestDoesNotFit: what does not fit goes to slots.
func TestDoesNotFit(t *testing.T) {
	ps := roomy(t, 2)
	for _, n := range []int{8, 9, 20, 64} {
		got := alone(t, "a crowd", ps, small(99, crowd(n+1)...), n)
		if got.Slots == 0 || count(got, api.RSpill) == 0 || count(got, api.RFill) == 0 {
			t.Errorf("it fits: %s", told(got))
		}
	}
	// Everything is wanted at the end, and by an exit all the time.
	for _, n := range []int{8, 11, 64} {
		c := small(200, exits(1, in(api.RUnbox, 150, 0)))
		var slots []api.Loc
		for r := range 80 {
			c.Ins = append(c.Ins, in(api.RFree, r+2, r%3), exits(1, in(api.RAdd, 151+r%2, 150, 150)))
			slots = append(slots, api.Loc{N: r}, api.Loc{Kind: api.InRaw, N: 150}, api.Loc{Kind: api.InConst, N: r % 10})
		}
		for i := 0; i+2 < len(slots); i += 3 {
			c.Exits[2].Frames = append([]api.Frame{{Proto: 1, Pc: 5, Self: slots[i], Slots: slots[i : i+3]}}, c.Exits[2].Frames...)
		}
		c.Exits[2].Frames[80].Slots = []api.Loc{{N: 1}, {Kind: api.InRaw, N: 152}}
		c.Ins = append(c.Ins, exits(2, in(api.RIs, 3, 2)), in(api.RLess, 180, 150, 151), in(api.RIf, 180, 1), exits(2, in(api.RExit)))
		alone(t, "a great exit", ps, c, n)
	}
}

// TestArguments: the frame's slots go to their homes once, and wherever they do: also where they change places, and where the code's first instruction is jumped to.
func TestArguments(t *testing.T) {
	d := &dice{4711}
	for n := 8; n <= 20; n++ {
		args := n - 4
		ps := roomy(t, args)
		for range 30 {
			c := api.Code{Proto: 1, Regs: args + 40, Names: []string{"g"}}
			self := api.Loc{Kind: api.InSelf}
			var slots []api.Loc
			for range args {
				slots = append(slots, api.Loc{N: d.below(args)})
			}
			c.Exits = []api.Exit{{Frames: []api.Frame{{Proto: 1, Self: self, Slots: slots}}}}
			for range d.below(6) {
				first, most := d.below(args), 1+d.below(args)
				most = min(most, args-first)
				c.Ins = append(c.Ins, in(api.RPrim, args+d.below(20), primitive("list"), first, most), in(api.RMove, d.below(args), d.below(args)))
			}
			c.Ins = append(c.Ins, in(api.RGlobal, args), in(api.RNew, args+1, args), in(api.RSetGlo, args+1), in(api.RCar, args, args), in(api.RIf, args, 0))
			first := d.below(args)
			c.Ins = append(c.Ins, in(api.RTail, first, d.below(args-first)))
			alone(t, "arguments", ps, c, n)
		}
	}
}

// TestWhatStays: exits that nobody goes to, slots that nobody has, and code that is never reached.
func TestWhatStays(t *testing.T) {
	ps := roomy(t, 2)
	c := small(70, in(api.RReturn, 1), in(api.RMove, 60, 61), in(api.RBox, 62, 60), in(api.RSave, 63, 62), in(api.RJump, 1))
	c.Slots = 5
	c.Exits = append(c.Exits, api.Exit{Frames: []api.Frame{{Proto: 1, Self: api.Loc{Kind: api.InSlot, N: 4}, Slots: []api.Loc{{Kind: api.RawSlot, N: 3}, {Kind: api.InRaw, N: 69}}}}})
	got := alone(t, "what is never reached", ps, c, 8)
	if got.Slots < 5 || len(got.Maps[0]) != 1 {
		t.Error(told(got))
	}
	c = small(4, in(api.RReturn))
	c.Slots = 65536
	if got := alone(t, "as many slots as there may be", ps, c, 8); got.Slots != 65536 {
		t.Error(told(got))
	}
}

// TestAgain: P17.1: what has maps is not taken once more; without them it may be, if it has no slots.
func TestAgain(t *testing.T) {
	ps := roomy(t, 2)
	got := assigned(t, ps, small(99, rounds(50)...), 8)
	if _, ok := regs.Assign(ps, got, 8); ok {
		t.Error("twice")
	}
	got.Maps = nil
	again := alone(t, "once more", ps, got, 9)
	if len(again.Ins) != len(got.Ins) || again.Slots > 0 {
		t.Errorf("%s\nof %s", told(again), told(got))
	}
}

// TestMapsOfLoop: P17.1: maps name no more than is wanted, and no raw numbers, though registers are used again for the other kind.
func TestMapsOfLoop(t *testing.T) {
	ps := roomy(t, 2)
	c := small(4, exits(1, in(api.RUnbox, 2, 0)), in(api.RBox, 3, 2), exits(1, in(api.RUnbox, 2, 1)), in(api.RNew, 2, 3), exits(1, in(api.RUnbox, 2, 0)), in(api.RLess, 2, 2, 2), in(api.RIf, 2, 8), in(api.RReturn, 3), in(api.RMove, 2, 3), in(api.RReturn, 2))
	got := alone(t, "used again", ps, c, 8)
	var sizes []int
	for _, m := range got.Maps {
		sizes = append(sizes, len(m))
	}
	if want := []int{2, 2, 3, 2, 2, 1, 2, 1}; !slices.Equal(sizes[:8], want) {
		t.Errorf("%v, not %v: %s", sizes, want, told(got))
	}
}
