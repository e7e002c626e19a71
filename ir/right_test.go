package ir_test

import (
	"strings"
	"testing"

	"tandem/api"
	"tandem/base"
)

// same tells whether what a run with register code came to is right, when the baseline alone came to want.
func same(o, want api.Outcome) bool {
	isShort := func(o api.Outcome) bool { return o.How == api.Memory || o.How == api.Fuel }
	if o.How != broken && (isShort(o) || isShort(want)) {
		return strings.HasPrefix(want.Output, o.Output) || strings.HasPrefix(o.Output, want.Output)
	}
	return o == want
}

// feeder makes feeds, which may be false.
type feeder struct {
	*dice
	ps   []api.Proto
	true []api.Feed
}

// feeds are what was seen, or not so, or both.
func (f feeder) feeds() []api.Feed {
	switch f.below(6) {
	case 0:
		return nil
	case 1:
		return f.false()
	case 2:
		return append(f.false(), f.true...)
	case 3:
		return append(ints(f.ps), f.true...)
	}
	return f.true
}

func (f feeder) false() []api.Feed {
	var all []api.Feed
	for n, p := range f.ps {
		for pc := range p.Code {
			x := api.Feed{Proto: n, Pc: pc, Mask: 2, Callee: f.below(len(f.ps)+2) - 1}
			if f.below(3) == 0 {
				x.Mask = f.below(1 << 11)
			}
			all = append(all, x)
		}
	}
	return all
}

// codes are of all places of all protos, or of most.
func (f feeder) codes(t testing.TB) []api.Code {
	feeds, most := f.feeds(), f.below(4)
	var all []api.Code
	for p := range f.ps {
		for _, entry := range entries(f.ps, p) {
			if most == 0 || f.below(4) > 0 {
				all = append(all, built(t, f.ps, p, entry, feeds...))
			}
		}
	}
	return all
}

// forcing is which guards fail though they would not: none, all, one alone, or any.
func (d *dice) forcing() func() bool {
	n := 0
	alone := d.below(40)
	switch d.below(5) {
	case 0:
		return func() bool { return true }
	case 1:
		return func() bool { n++; return n == alone }
	case 2:
		return func() bool { return d.below(3) == 0 }
	case 3:
		return func() bool { return d.below(30) == 0 }
	}
	return nil
}

// TestMadeSources: what made sources come to does not hang on register code, whatever is said to have been seen, and whichever guards fail.
func TestMadeSources(t *testing.T) {
	s := &sourceMaker{dice: dice{2463534242}}
	hows, entered, failed := map[int]int{}, 0, 0
	for range 600 {
		source := s.program()
		ps := compiled(t, source)
		l := api.Limits{Words: api.MaxWords, Fuel: 4000, Output: 300}
		m := newMachine(ps, l)
		want := m.run()
		hows[want.How]++
		if o := base.Run(ps, l); (o.How == api.Value || o.How == api.Raised) && o != want {
			t.Fatalf("%s\nbase comes to %+v, the machine of the tests to %+v", source, o, want)
		}
		f := feeder{&s.dice, ps, m.table.All()}
		for range 3 {
			m := newMachine(ps, l, f.codes(t)...)
			m.fails = s.forcing()
			if o := m.run(); !same(o, want) {
				t.Fatalf("%s\n got %+v\nwant %+v", source, o, want)
			}
			entered, failed = entered+m.entered, failed+m.failed
		}
	}
	if hows[api.Value] < 100 || hows[api.Raised] < 100 || entered < 10000 || failed < 5000 {
		t.Errorf("%v, entered %d, failed %d", hows, entered, failed)
	} else {
		t.Logf("%v, entered %d, failed %d", hows, entered, failed)
	}
}

// TestMadeCode: likewise of code that layer 9 would not make, in frames whose slots and closures are any.
func TestMadeCode(t *testing.T) {
	s := &scrambler{dice: dice{88172645463325252}}
	hows, entered, failed := map[int]int{}, 0, 0
	for i := range 4000 {
		ps := s.program()
		m := newMachine(ps, api.Limits{Words: api.MaxWords, Fuel: 300, Output: 100})
		m.run()
		p := 1 + s.below(len(ps)-1)
		entry := pick(&s.dice, entries(ps, p)...)
		seed := uint64(i) + 1
		m.again(m.anyFrame(seed, p, entry), 600)
		want := m.run()
		hows[want.How]++
		f := feeder{&s.dice, ps, m.table.All()}
		for range 3 {
			m := newMachine(ps, api.Limits{Words: api.MaxWords, Fuel: 300, Output: 100})
			m.run()
			for _, c := range f.codes(t) {
				m.codes[[2]int{c.Proto, c.Entry}] = c
			}
			m.again(m.anyFrame(seed, p, entry), 600)
			m.fails = s.forcing()
			if o := m.run(); !same(o, want) {
				t.Fatalf("%d: %+v, from %d of %d on\n got %+v\nwant %+v\n%s", i, ps, entry, p, o, want, told(m.codes[[2]int{p, entry}]))
			}
			entered, failed = entered+m.entered, failed+m.failed
		}
	}
	if hows[api.Value] < 100 || hows[api.Raised] < 100 || hows[api.Fuel] < 20 || hows[api.Bound] < 100 || entered < 10000 || failed < 10000 {
		t.Errorf("%v, entered %d, failed %d", hows, entered, failed)
	} else {
		t.Logf("%v, entered %d, failed %d", hows, entered, failed)
	}
}
