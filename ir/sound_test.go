package ir_test

import (
	"math"
	"slices"
	"strings"
	"testing"

	"tandem/api"
	"tandem/ir"
)

// plain is a program whose proto 1 takes two arguments, has three values, and calls itself; its code begins at 0, or at the loop at 1. Proto 2 takes none, and its place 3 is not reached.
func plain() []api.Proto {
	return []api.Proto{
		{Consts: []api.Datum{whole(1)}, Code: []api.Ins{op(api.OpConst), op(api.OpReturn)}},
		{Args: 2, Free: 3, Consts: []api.Datum{whole(1), whole(2)}, Code: []api.Ins{op(api.OpLocal), op(api.OpLoop), op(api.OpLocal), op(api.OpLocal, 1), op(api.OpCall, 1), op(api.OpReturn)}},
		{Names: []string{"x"}, Consts: []api.Datum{whole(1)}, Code: []api.Ins{op(api.OpGlobal), op(api.OpCall), op(api.OpReturn), op(api.OpLoop), op(api.OpReturn)}},
	}
}

func locs(n int) []api.Loc { return make([]api.Loc, n) }

// good is sound code of proto 1, with one of each thing at least.
func good() api.Code {
	return api.Code{
		Proto: 1, Regs: 5, Slots: 3, Ins: []api.RIns{{Op: api.RMove}, {Op: api.RReturn}},
		Exits: []api.Exit{{Frames: []api.Frame{{Proto: 1, Self: api.Loc{Kind: api.InSelf}, Slots: locs(2)}}}, {Frames: []api.Frame{{Proto: 1, Pc: 5, Slots: locs(3)}, {Proto: 2, Pc: 1, Slots: locs(1)}}}},
		Raws:  []int64{1, 2}, Names: []string{"x", "y"}, Consts: []api.Datum{{Kind: api.Void}, {Kind: api.List}},
	}
}

func sound(t *testing.T, what string, want bool, turn func(c *api.Code)) {
	t.Helper()
	c := good()
	turn(&c)
	if ir.Sound(plain(), c) != want {
		t.Errorf("%s: not %v", what, want)
	}
	if modelSound(plain(), c) != want {
		t.Errorf("%s: the second checker does not say %v", what, want)
	}
}

func operandsOf(in *api.RIns) []*int { return []*int{&in.A, &in.B, &in.C, &in.D, &in.E} }

// TestOperands: each operand of each instruction, at its least and greatest, and beyond.
func TestOperands(t *testing.T) {
	most := map[byte]int{'.': 0, 'r': 4, 'k': 1, 'o': 3, 'w': 1, 's': 2, 'n': 1, 'p': 2, 'j': 1, 'e': 1, 'f': 2, 'v': 4095, 't': 4, 'q': 0, 'c': 5, 'd': 5}
	for opcode, row := range letters()[1:] {
		name, all, _ := strings.Cut(row, "=")
		for i, letter := range []byte(all) {
			for _, n := range []int{0, most[letter], most[letter] + 1, -1, math.MaxInt, math.MinInt} {
				in := api.RIns{Op: opcode + 1}
				*operandsOf(&in)[i] = n
				want := n >= 0 && n <= most[letter]
				sound(t, name+" "+string(letter), want, func(c *api.Code) { c.Ins[0] = in })
			}
		}
	}
	for _, opcode := range []int{0, 29, -1, math.MaxInt, math.MinInt} {
		sound(t, "no instruction", false, func(c *api.Code) { c.Ins[0].Op = opcode })
	}
}

// TestOperandsTogether: operands that hang on each other.
func TestOperandsTogether(t *testing.T) {
	for _, r := range []struct {
		in   api.RIns
		want bool
	}{
		{api.RIns{Op: api.RConst, B: 0, C: 1}, true}, {api.RIns{Op: api.RConst, B: 1, C: 1}, false}, {api.RIns{Op: api.RConst, B: 1, C: 2}, true}, {api.RIns{Op: api.RConst, B: 2, C: 2}, false}, {api.RIns{Op: api.RConst, B: 1, C: 3}, false}, {api.RIns{Op: api.RConst, B: -1, C: 2}, false},
		{api.RIns{Op: api.RTail, A: 2, B: 2}, true}, {api.RIns{Op: api.RTail, A: 2, B: 3}, false}, {api.RIns{Op: api.RTail, A: 4}, true}, {api.RIns{Op: api.RTail, A: 4, B: math.MaxInt}, false},
		{api.RIns{Op: api.RPrim, B: 38, C: 4, D: 1}, true}, {api.RIns{Op: api.RPrim, B: 38, C: 5, D: 1}, false}, {api.RIns{Op: api.RPrim, B: 38}, false}, {api.RIns{Op: api.RPrim, B: 38, D: 2}, false},
		{api.RIns{Op: api.RPrim, B: 58, D: 3}, true}, {api.RIns{Op: api.RPrim, B: 58, C: 2, D: 3}, true}, {api.RIns{Op: api.RPrim, B: 58, C: 3, D: 3}, false}, {api.RIns{Op: api.RPrim, B: 55, D: 1}, true}, {api.RIns{Op: api.RPrim, B: 55, D: 3}, false},
		{api.RIns{Op: api.RPrim, B: 42, D: 5}, true}, {api.RIns{Op: api.RPrim, B: 42, D: 6}, false}, {api.RIns{Op: api.RPrim, B: 42, D: math.MaxInt}, false}, {api.RIns{Op: api.RPrim, B: 42, C: 1, D: math.MaxInt}, false},
		{api.RIns{Op: api.RPrim, B: 84}, true}, {api.RIns{Op: api.RPrim, B: 85, D: 2}, false}, {api.RIns{Op: api.RPrim, B: 91, D: 1}, false}, {api.RIns{Op: api.RPrim, B: 92}, false}, {api.RIns{Op: api.RPrim, B: -1}, false},
	} {
		sound(t, told(api.Code{Ins: []api.RIns{r.in}}), r.want, func(c *api.Code) { c.Ins[0] = r.in })
	}
}

// TestPlaces: of which protos code may be, and where it may begin.
func TestPlaces(t *testing.T) {
	for _, r := range []struct {
		proto, entry int
		want         bool
	}{
		{1, 0, true}, {1, 1, true}, {1, 2, false}, {1, 5, false}, {1, 6, false}, {1, -1, false}, {0, 0, false}, {0, 1, false}, {2, 3, false}, {3, 0, false}, {-1, 0, false}, {math.MaxInt, math.MinInt, false},
	} {
		c := good()
		c.Proto, c.Entry, c.Exits = r.proto, r.entry, nil
		if ir.Sound(plain(), c) != r.want {
			t.Errorf("%d at %d", r.proto, r.entry)
		}
	}
	wrong := plain()
	wrong[2].Code[2].A = 1
	for _, ps := range [][]api.Proto{nil, wrong, plain()[:1], {{}, {}}} {
		if ir.Sound(ps, good()) {
			t.Error("a program that is not right, or has no such proto")
		}
	}
}

// TestSizes: of registers, slots, instructions, and how code ends.
func TestSizes(t *testing.T) {
	for _, n := range []int{5, 6, 65536} {
		sound(t, "registers", true, func(c *api.Code) { c.Regs = n })
	}
	for _, n := range []int{1, 0, -1, 65537, math.MaxInt, math.MinInt} {
		sound(t, "registers", false, func(c *api.Code) { c.Regs, c.Exits = n, nil })
	}
	sound(t, "registers for the arguments alone", true, func(c *api.Code) { c.Regs = 2 })
	sound(t, "registers for a loop", true, func(c *api.Code) { c.Entry, c.Regs = 1, 3 })
	sound(t, "too few registers for a loop", false, func(c *api.Code) { c.Entry, c.Regs = 1, 2 })
	for n, want := range map[int]bool{0: true, 3: true, 65536: true, 65537: false, -1: false, math.MinInt: false} {
		sound(t, "slots", want, func(c *api.Code) { c.Slots = n })
	}
	sound(t, "no instruction", false, func(c *api.Code) { c.Ins = nil })
	sound(t, "no more instructions", false, func(c *api.Code) { c.Ins = []api.RIns{} })
	for opcode := 1; opcode <= 28; opcode++ {
		ends := opcode == api.RJump || opcode == api.RReturn || opcode == api.RTail || opcode == api.RExit
		sound(t, "the last instruction", ends, func(c *api.Code) { c.Ins[1] = api.RIns{Op: opcode} })
	}
	sound(t, "a long one", true, func(c *api.Code) { c.Ins = append(make([]api.RIns, 0), slices.Repeat(c.Ins, 1<<16)...) })
}

// TestMaps: none, or one for each instruction.
func TestMaps(t *testing.T) {
	for _, m := range [][][]int{nil, {}, {{}, nil}, {{0}, {4}}, {{0, 1, 2, 3, 4}, {1, 3}}} {
		sound(t, "maps", true, func(c *api.Code) { c.Maps = m })
	}
	for _, m := range [][][]int{{{}}, {{}, {}, {}}, {{5}, {}}, {{}, {-1}}, {{1, 0}, {}}, {{}, {2, 2}}, {{0, math.MaxInt}, {}}, {{math.MinInt}, {}}} {
		sound(t, "maps", false, func(c *api.Code) { c.Maps = m })
	}
}

// TestFrames: what exits may be.
func TestFrames(t *testing.T) {
	f := func(proto, pc, slots int) api.Frame { return api.Frame{Proto: proto, Pc: pc, Slots: locs(slots)} }
	for i, frames := range [][]api.Frame{{f(1, 0, 2)}, {f(1, 1, 3)}, {f(1, 4, 5)}, {f(1, 5, 4)}, {f(1, 5, 3), f(0, 0, 0)}, {f(1, 5, 3), f(1, 5, 3), f(1, 5, 4)}, {f(1, 5, 3), f(2, 2, 0), f(2, 2, 1)}} {
		sound(t, "frames", true, func(c *api.Code) { c.Exits[i%2].Frames = frames })
	}
	for i, frames := range [][]api.Frame{
		nil, {}, {f(1, 0, 1)}, {f(1, 0, 3)}, {f(2, 0, 0)}, {f(0, 0, 0)}, {f(-1, 0, 0)}, {f(3, 0, 0)}, {f(1, 6, 4)}, {f(1, -1, 2)}, {f(1, math.MaxInt, 2)}, {f(1, math.MinInt, 2)},
		{f(1, 5, 4), f(0, 0, 0)}, {f(1, 4, 4), f(0, 0, 0)}, {f(1, 0, 1), f(0, 0, 0)}, {f(1, 0, 2), f(0, 0, 0)}, {f(1, 1, 2), f(0, 0, 0)}, {f(1, 5, 3)}, {f(1, 5, 3), f(0, 0, 1)}, {f(1, 5, 3), f(3, 0, 0)}, {f(1, 5, 3), f(2, 3, 0)}, {f(1, 5, 3), f(2, 3, 1)}, {f(1, 5, 3), f(2, 2, 0)}, {f(1, 5, 3), f(2, 2, 1), f(0, 0, 0)}, {f(2, 2, 0), f(1, 0, 2)},
	} {
		sound(t, "frames", false, func(c *api.Code) { c.Exits[i%2].Frames = frames })
	}
}

// TestLocs: where a slot, or the closure, may be found.
func TestLocs(t *testing.T) {
	most := []int{4, 4, 1, 0, 2, 2}
	for kind := -1; kind <= 6; kind++ {
		for _, n := range []int{0, 1, 2, 3, 4, 5, -1, math.MaxInt, math.MinInt} {
			want := kind >= 0 && kind < len(most) && n >= 0 && n <= most[kind]
			l := api.Loc{Kind: kind, N: n}
			sound(t, "a slot", want, func(c *api.Code) { c.Exits[0].Frames[0].Slots[1] = l })
			sound(t, "an inner slot", want, func(c *api.Code) { c.Exits[1].Frames[1].Slots[0] = l })
			sound(t, "an outer slot", want, func(c *api.Code) { c.Exits[1].Frames[0].Slots[2] = l })
			sound(t, "a closure", want, func(c *api.Code) { c.Exits[0].Frames[0].Self = l })
			sound(t, "an inner closure", want, func(c *api.Code) { c.Exits[1].Frames[1].Self = l })
		}
	}
}

// TestPools: the code's own constants, and raw numbers.
func TestPools(t *testing.T) {
	number := func(neg bool, mag ...uint32) api.Datum {
		return api.Datum{Kind: api.Int, Num: api.Num{Neg: neg, Mag: mag}}
	}
	void := []api.Datum{{Kind: api.Void}}
	for _, d := range []api.Datum{
		number(false), {Kind: api.Int, Num: api.Num{Mag: []uint32{}}}, number(false, 1), number(true, 1), number(false, math.MaxUint32, 1<<29-1), number(true, 0, 1<<29), {Kind: api.Bool}, {Kind: api.Bool, N: 1}, {Kind: api.Char}, {Kind: api.Char, N: 255},
		{Kind: api.Symbol}, {Kind: api.Symbol, Text: "a"}, {Kind: api.Proc}, {Kind: api.Proc, N: 38}, {Kind: api.Proc, N: 91}, {Kind: api.Void}, {Kind: api.List}, {Kind: api.List, Items: []api.Datum{}, Rest: []api.Datum{}},
	} {
		sound(t, "a constant", true, func(c *api.Code) { c.Consts[1] = d })
		for i, turn := range []func(d *api.Datum){
			func(d *api.Datum) { d.Items = void }, func(d *api.Datum) { d.Rest = void }, func(d *api.Datum) { d.Items, d.Rest = void, void }, func(d *api.Datum) { d.N += 1 << 40 }, func(d *api.Datum) { d.N -= 1 << 40 },
			func(d *api.Datum) { d.Kind += 1 << 10 }, func(d *api.Datum) { d.Num.Mag = append(slices.Clone(d.Num.Mag), 0) }, func(d *api.Datum) { d.Num.Mag = append(slices.Clone(d.Num.Mag), 0, 0, 1) },
			func(d *api.Datum) { d.Text += "b" }, func(d *api.Datum) { d.Num.Neg = true },
		} {
			if i == 8 && d.Kind == api.Symbol || i == 9 && len(d.Num.Mag) > 0 {
				continue
			}
			sound(t, "a turned constant", false, func(c *api.Code) { turn(&d); c.Consts[0] = d })
		}
	}
	for _, d := range []api.Datum{
		{}, {Kind: -1}, {Kind: 11}, {Kind: api.String}, {Kind: api.Vector}, {Kind: api.Cond}, {Kind: api.Bool, N: 2}, {Kind: api.Bool, N: -1}, {Kind: api.Char, N: 256}, {Kind: api.Char, N: -1}, {Kind: api.Symbol, N: -1}, {Kind: api.Symbol, N: 1, Text: "a"},
		{Kind: api.Proc, N: 92}, {Kind: api.Proc, N: -1}, {Kind: api.Proc, Text: "car"}, {Kind: api.Void, N: 1}, {Kind: api.List, N: 1}, {Kind: api.Int, N: 1}, number(false, 0), number(true), number(false, 1, 0), number(false, 0, 1<<29), number(true, 1, 1<<29), number(true, 0, 1<<29+1), number(false, 1, 1, 1), {Kind: api.Int, Text: "1"},
	} {
		sound(t, "no constant", false, func(c *api.Code) { c.Consts[1] = d })
	}
	for n, want := range map[int64]bool{0: true, 1<<61 - 1: true, 1 << 61: false, -1 << 61: true, -1<<61 - 1: false, math.MaxInt64: false, math.MinInt64: false} {
		sound(t, "a raw number", want, func(c *api.Code) { c.Raws[1] = n })
	}
}

// TestTurned: of built code in which something was turned both checkers say the same.
func TestTurned(t *testing.T) {
	s := &sourceMaker{dice: dice{362436069}}
	said := map[bool]int{}
	for range 60 {
		ps := compiled(t, s.program())
		f := feeder{&s.dice, ps, nil}
		for _, c := range f.codes(t) {
			for range 10 {
				x := copied(c)
				s.turn(ps, &x)
				want := modelSound(ps, x)
				said[want]++
				if ir.Sound(ps, x) != want {
					t.Fatalf("not %v: %s", want, told(x))
				}
			}
		}
	}
	if said[true] < 1000 || said[false] < 1000 {
		t.Errorf("%v", said)
	}
}

// numberNear is one near another, or at an edge.
func (s *sourceMaker) numberNear(n int) int {
	return pick(&s.dice, n+1, n-1, n+2, 0, -1, s.below(100), 65536, 4096, math.MaxInt, math.MinInt)
}

// turn turns one thing of code.
func (s *sourceMaker) turn(ps []api.Proto, c *api.Code) {
	in := &c.Ins[s.below(len(c.Ins))]
	switch s.below(8) {
	case 0:
		in.Op = s.numberNear(in.Op)
	case 1, 2:
		to := pick(&s.dice, operandsOf(in)...)
		*to = s.numberNear(*to)
	case 3:
		*in = c.Ins[s.below(len(c.Ins))]
	case 4:
		c.Regs = s.numberNear(c.Regs)
	case 5:
		c.Ins = c.Ins[:s.below(len(c.Ins)+1)]
	case 6:
		c.Maps = make([][]int, len(c.Ins))
		c.Maps[s.below(len(c.Maps))] = []int{s.below(c.Regs + 1), s.below(c.Regs + 1)}
	case 7:
		if len(c.Exits) > 0 {
			s.turnExit(&c.Exits[s.below(len(c.Exits))])
		}
	}
}

func (s *sourceMaker) turnExit(e *api.Exit) {
	f := &e.Frames[s.below(len(e.Frames))]
	l := &f.Self
	if len(f.Slots) > 0 && s.below(3) > 0 {
		l = &f.Slots[s.below(len(f.Slots))]
	}
	switch s.below(6) {
	case 0:
		f.Proto = s.numberNear(f.Proto)
	case 1:
		f.Pc = s.numberNear(f.Pc)
	case 2:
		l.N = s.numberNear(l.N)
	case 3:
		l.Kind = s.numberNear(l.Kind)
	case 4:
		f.Slots = append(f.Slots, api.Loc{})
	case 5:
		e.Frames = e.Frames[:s.below(len(e.Frames))]
	}
}

// copied is the same code in other memory.
func copied(c api.Code) api.Code {
	c.Ins, c.Raws, c.Names, c.Consts = slices.Clone(c.Ins), slices.Clone(c.Raws), slices.Clone(c.Names), slices.Clone(c.Consts)
	c.Exits, c.Maps = slices.Clone(c.Exits), slices.Clone(c.Maps)
	for i := range c.Exits {
		fs := slices.Clone(c.Exits[i].Frames)
		for k := range fs {
			fs[k].Slots = slices.Clone(fs[k].Slots)
		}
		c.Exits[i].Frames = fs
	}
	for i := range c.Maps {
		c.Maps[i] = slices.Clone(c.Maps[i])
	}
	for i := range c.Consts {
		c.Consts[i].Num.Mag = slices.Clone(c.Consts[i].Num.Mag)
	}
	return c
}
