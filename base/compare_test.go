package base_test

import (
	"strings"
	"testing"

	"tandem/api"
	"tandem/base"
)

// same tells whether two outcomes are one, but that the one that ended for want of something has put out the beginning of the other.
func same(few, many api.Outcome) bool {
	if few.How == api.Memory || few.How == api.Fuel {
		return strings.HasPrefix(many.Output, few.Output)
	}
	return few == many
}

// TestMadeSources: what made sources come to is what the second machine comes to, however little room there is, and whatever is collected.
func TestMadeSources(t *testing.T) {
	s := &sourceMaker{dice: dice{2463534242}}
	hows := map[int]int{}
	for range 1200 {
		source := s.program()
		ps := compiled(t, source)
		l := api.Limits{Words: 1 << 14, Fuel: 20 + s.below(2000), Output: 10 + s.below(200)}
		want := modelRun(ps, l)
		hows[want.How]++
		if o := base.Run(ps, l); o != want {
			t.Fatalf("%s\n got %s\nwant %s", source, told(o), told(want))
		}
		few := l
		few.Words = 64 + s.below(500)
		for range s.below(40) {
			few.Gc = append(few.Gc, s.below(400))
		}
		if o := base.Run(ps, few); !same(o, want) {
			t.Fatalf("%s\nwith %d words\n got %s\nwant %s", source, few.Words, told(o), told(want))
		}
	}
	for _, how := range []int{api.Value, api.Raised, api.Fuel, api.Bound} {
		if hows[how] < 10 {
			t.Errorf("%d of outcome %d alone", hows[how], how)
		}
	}
}

// TestMadeCode: code that layer 9 need not make comes to the same in both machines too, and the heap is in order at every step.
func TestMadeCode(t *testing.T) {
	c := &codeMaker{dice: dice{88172645463325252}}
	hows := map[int]int{}
	for i := range 4000 {
		ps := c.program()
		l := api.Limits{Words: 1 << 12, Fuel: 300, Output: 50}
		want := modelRun(ps, l)
		hows[want.How]++
		if want.How == api.Memory {
			continue
		}
		if o := base.Run(ps, l); o != want && !(o.How == api.Memory && same(o, want)) {
			t.Fatalf("%d: %+v\n got %s\nwant %s", i, ps, told(o), told(want))
		}
		l.Words = 64 + c.below(200)
		for range c.below(20) {
			l.Gc = append(l.Gc, c.below(100))
		}
		m := made(t, ps, l)
		for goes := true; goes; {
			goes = m.Step(1 + c.below(5))
			if bad := disorder(m.Words(), m.Roots()); bad >= 0 {
				t.Fatalf("%d: %+v\nbehind %d steps: the heap at %d", i, ps, m.Count(), bad)
			}
		}
		if o := m.Outcome(); !same(o, want) {
			t.Fatalf("%d: %+v\nwith %d words\n got %s\nwant %s", i, ps, l.Words, told(o), told(want))
		}
	}
	for _, how := range []int{api.Value, api.Raised, api.Fuel, api.Bound} {
		if hows[how] < 100 {
			t.Errorf("%d of outcome %d alone", hows[how], how)
		}
	}
}
