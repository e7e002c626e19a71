package regs_test

import (
	"testing"

	"tandem/api"
	"tandem/ir"
	"tandem/regs"
)

const many = 1 << 16

// long is code whose instructions are made one after the other, so many times.
func long(registers int, times int, first []api.RIns, make func(i int) []api.RIns) api.Code {
	c := small(registers, first...)
	for i := range times {
		c.Ins = append(c.Ins, make(i)...)
	}
	c.Ins = append(c.Ins, in(api.RReturn, 0))
	return c
}

// wide is code whose third exit reads so many registers.
func wide(c api.Code, registers int) api.Code {
	e := &c.Exits[2]
	inner := e.Frames[0]
	e.Frames = nil
	for r := 0; r < registers; r += 3 {
		e.Frames = append(e.Frames, api.Frame{Proto: 1, Pc: 5, Self: api.Loc{Kind: api.InSelf}, Slots: []api.Loc{{N: r}, {N: r + 1}, {N: r + 2}}})
	}
	e.Frames = append(e.Frames, inner)
	return c
}

// TestLongCode: R1: code of many instructions, registers, jumps, exits is taken, and soon.
func TestLongCode(t *testing.T) {
	ps := roomy(t, 2)
	move := func(to, from int) []api.RIns { return []api.RIns{in(api.RMove, to, from)} }
	for _, r := range []struct {
		what string
		code api.Code
		most int // how many instructions there may be for each one
	}{
		{"moves along all registers", long(many, many, nil, func(i int) []api.RIns { return move(min(i+1, many-1), i) }), 2},
		{"loads of all registers", long(many, many, nil, func(i int) []api.RIns { return []api.RIns{in(api.RFree, i, 1)} }), 2},
		{"all registers wanted at one time", long(many, many, nil, func(i int) []api.RIns {
			if i < many/2 {
				return []api.RIns{in(api.RFree, i, 1)}
			}
			return []api.RIns{in(api.RNew, i, i-many/2)}
		}), 4},
		{"one that is moved from far", long(9, many, nil, func(i int) []api.RIns { return move(2+i%7, 1) }), 2},
		{"one that is moved from far, and may be either", long(9, many, []api.RIns{in(api.RRaw, 8), in(api.RBox, 8, 8)}, func(i int) []api.RIns { return move(2+i%6, 8) }), 4},
		{"sums on and on", long(9, many, []api.RIns{in(api.RRaw, 6, 0), in(api.RRaw, 7, 1)}, func(i int) []api.RIns { return []api.RIns{in(api.RAdd, 6, 6, 7)} }), 2},
		{"choices that go to one place", long(9, many, nil, func(i int) []api.RIns { return []api.RIns{in(api.RIf, 0, many)} }), 2},
		{"jumps back to the beginning", long(9, many/2, nil, func(i int) []api.RIns { return []api.RIns{in(api.RMove, i%9, (i+1)%9), in(api.RIf, i%9)} }), 4},
		{"loops in loops", long(9, many/2, nil, func(i int) []api.RIns { return []api.RIns{in(api.RNew, i%9, i*i%9), in(api.RIf, i%9, i)} }), 4},
		{"guards with one exit that reads much", wide(long(4096, many/4, nil, func(i int) []api.RIns { return []api.RIns{exits(2, in(api.RUnbox, 3, 0))} }), 4000), 2},
		{"guards that write what their exit reads", wide(long(4096, many/4, []api.RIns{in(api.RRaw, 3)}, func(i int) []api.RIns { return []api.RIns{exits(2, in(api.RGlobal, 4+i%4000))} }), 4000), 3},
		{"more wanted all the time than is looked at", long(600, many/4, nil, func(i int) []api.RIns { return []api.RIns{in(api.RFree, i%600, 0), in(api.RNew, (i+1)%600, (i+1)%600)} }), 4},
		{"rows", long(100, many/4, nil, func(i int) []api.RIns { return []api.RIns{exits(1, in(api.RPrim, i%100, primitive("list"), i%96, 4))} }), 7},
	} {
		if !ir.Sound(ps, r.code) {
			t.Fatalf("%s: not sound", r.what)
		}
		for _, n := range []int{8, 64} {
			got, ok := regs.Assign(ps, r.code, n)
			if !ok || len(got.Ins) > r.most*len(r.code.Ins) || !ir.Sound(ps, got) {
				t.Errorf("%s: %v, %d instructions", r.what, ok, len(got.Ins))
			}
		}
	}
}

// TestLongLive: R1, P17.2: lists of long code.
func TestLongLive(t *testing.T) {
	c := long(many, many, nil, func(i int) []api.RIns { return []api.RIns{in(api.RMove, min(i+1, many-1), i)} })
	for i, l := range regs.Live(c)[:many-1] {
		if want := map[bool]int{true: 1, false: 2}[i == 0]; len(l) != want || l[want-1] != i {
			t.Fatalf("at %d: %v", i, l)
		}
	}
	c = wide(long(4096, 2000, nil, func(i int) []api.RIns { return []api.RIns{exits(2, in(api.RUnbox, 3, 0))} }), 4000)
	if got := regs.Live(c); len(got[1999]) != 4002 {
		t.Errorf("%d are wanted", len(got[1999]))
	}
}

// runLong tells whether long code comes to the same with few registers; what its maps say is not asked.
func runLong(t *testing.T, what string, c api.Code) {
	t.Helper()
	ps := roomy(t, 2)
	for _, n := range []int{8, 64} {
		got, ok := regs.Assign(ps, c, n)
		if !ok || !ir.Sound(ps, got) {
			t.Fatalf("%s: not taken, or not sound", what)
		}
		ends := map[string]int{}
		for seed := uint64(1); seed < 40; seed += 3 {
			was, is := worldOf(ps, c, seed, 2), worldOf(ps, got, seed, 2)
			if seed%2 == 0 { // then it is false
				was.set(1, 2)
				is.set(1, 2)
			}
			want, end := was.run(10*many), is.run(40*many)
			if want != end {
				t.Fatalf("%s, seed %d: %s, not %s", what, seed, end, want)
			}
			ends[firstWord(want)]++
		}
		if ends["returns"] < 10 {
			t.Errorf("%s: %v", what, ends)
		}
	}
}

// TestOutOfPatience: P17.1: code in which there is more to look at than is looked at comes to the same all the same.
func TestOutOfPatience(t *testing.T) {
	// Which kind it is that is moved is asked from too far, too often; it is moved once more then.
	either := func(at, raw int) []api.RIns {
		return []api.RIns{in(api.RIf, 1, at+3), in(api.RRaw, 8, raw), in(api.RJump, at+4), in(api.RFree, 8, raw)}
	}
	c := small(9, either(0, 1)...)
	for i := range many {
		c.Ins = append(c.Ins, in(api.RMove, 2+i%6, 8))
	}
	c.Ins = append(c.Ins, either(len(c.Ins), 2)...)
	last := len(c.Ins)
	c.Ins = append(c.Ins, in(api.RMove, 4, 8), in(api.RMove, 7, 8), in(api.RIf, 1, last+5), in(api.RBox, 2, 4), in(api.RReturn, 2), in(api.RReturn, 7))
	runLong(t, "moves from far", c)

	// More things are wanted for longer than is looked at: first those that are put in loops, arguments then. The last ones hold all others.
	const things = 300
	c = small(things+10, in(api.RFree, things+2, 0))
	for r := range things {
		c.Ins = append(c.Ins, in(api.RFree, r+2, r%3), in(api.RNew, r+2, r+2))
	}
	for i := range many {
		x := in(api.RMove, things+3+i%5, things+2)
		if i < 4 {
			x = in(api.RIf, 2, 1) // a box is not false
		}
		c.Ins = append(c.Ins, x)
	}
	for r := range things - 1 {
		c.Ins = append(c.Ins, in(api.RSave, r+2, r+3))
	}
	c.Ins = append(c.Ins, in(api.RNew, things+2, 0), in(api.RNew, things+3, 1), in(api.RSave, things+1, things+2), in(api.RSave, things, things+3), in(api.RReturn, 2))
	runLong(t, "many things", c)
}
