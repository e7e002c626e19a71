package base_test

import (
	"math"
	"reflect"
	"slices"
	"testing"

	"tandem/api"
	"tandem/base"
)

// spacious are protos whose lists have spare room, with marks in it.
func spacious(ps []api.Proto) []api.Proto {
	ps = append(make([]api.Proto, 0, len(ps)+2), ps...)
	for i := range ps {
		p := &ps[i]
		p.Code = append(append(make([]api.Ins, 0, len(p.Code)+2), p.Code...), api.Ins{Op: 77}, api.Ins{Op: 78})[:len(p.Code)]
		p.Names = append(append(make([]string, 0, len(p.Names)+1), p.Names...), "spare")[:len(p.Names)]
		p.Consts = spaciousData(p.Consts)
	}
	return append(ps, api.Proto{Name: "spare"})[:len(ps)]
}

func spaciousData(data []api.Datum) []api.Datum {
	all := append(make([]api.Datum, 0, len(data)+1), data...)
	for i := range all {
		d := &all[i]
		d.Items, d.Rest = spaciousData(d.Items), spaciousData(d.Rest)
		d.Num.Mag = append(append(make([]uint32, 0, len(d.Num.Mag)+1), d.Num.Mag...), 99)[:len(d.Num.Mag)]
	}
	return append(all, api.Datum{Kind: 99})[:len(all)]
}

// unfolded are copies of whole lists, spare room included.
func unfolded(ps []api.Proto) []api.Proto {
	all := slices.Clone(ps[:cap(ps)])
	for i := range all {
		p := &all[i]
		p.Code, p.Names = slices.Clone(p.Code[:cap(p.Code)]), slices.Clone(p.Names[:cap(p.Names)])
		p.Consts = unfoldedData(p.Consts)
	}
	return all
}

func unfoldedData(data []api.Datum) []api.Datum {
	all := slices.Clone(data[:cap(data)])
	for i := range all {
		d := &all[i]
		d.Items, d.Rest = unfoldedData(d.Items), unfoldedData(d.Rest)
		d.Num.Mag = slices.Clone(d.Num.Mag[:cap(d.Num.Mag)])
	}
	return all
}

// spoil turns all that is in the protos' lists.
func spoil(ps []api.Proto) {
	for i := range ps {
		p := &ps[i]
		for k := range p.Code {
			p.Code[k] = api.Ins{Op: api.OpJump, A: 1 << 20}
		}
		for k := range p.Names {
			p.Names[k] = "spoilt"
		}
		spoilData(p.Consts)
		*p = api.Proto{}
	}
}

func spoilData(data []api.Datum) {
	for i := range data {
		d := &data[i]
		for k := range d.Num.Mag {
			d.Num.Mag[k] = 12345
		}
		spoilData(d.Items)
		spoilData(d.Rest)
		*d = api.Datum{Kind: api.Cond}
	}
}

const varied = "(define (f x . r) (list x r '(1 (2 . 3) #(\"a\" b 99999999999999999999999)) 'c)) (display (f 1)) (define y '(#(7) . 8)) (call/cc (lambda (k) (set! y (f y 123456789012345678901234567890)))) (display y) (unbound-name)"

// TestHandedIn: what is handed in is neither changed nor kept.
func TestHandedIn(t *testing.T) {
	want := base.Run(compiled(t, varied), ample())
	if want.How != api.Raised {
		t.Fatal(told(want))
	}
	ps := spacious(compiled(t, varied))
	gc := append(make([]int, 0, 9), 30, 3, 7, 3, -1)
	gc = append(gc, 55, 44)[:5]
	before, numbers := unfolded(ps), slices.Clone(gc[:cap(gc)])
	l := ample()
	l.Gc = gc
	if o := base.Run(ps, l); o != want {
		t.Error(told(o))
	}
	m := made(t, ps, l)
	m.Step(20)
	if !reflect.DeepEqual(unfolded(ps), before) || !slices.Equal(gc[:cap(gc)], numbers) {
		t.Error("what was handed in is changed")
	}
	times := m.Times()
	spoil(ps)
	for i := range gc {
		gc[i] = 25
	}
	for m.Step(1) {
	}
	if m.Outcome() != want || m.Times() != times+1 {
		t.Errorf("%s, %d collections", told(m.Outcome()), m.Times()-times)
	}
}

// TestAnswered: what is answered is new memory.
func TestAnswered(t *testing.T) {
	m := made(t, compiled(t, varied), ample())
	want := base.Run(compiled(t, varied), ample())
	for m.Step(3) {
		for _, answer := range []func() []uint64{m.Words, m.Roots} {
			first, second := answer(), answer()
			spare := first[:cap(first)]
			for i := range spare {
				spare[i] = 77
			}
			if !slices.Equal(second, answer()) {
				t.Fatal("an answer is shared")
			}
		}
	}
	if m.Outcome() != want {
		t.Error(told(m.Outcome()))
	}
}

// TestMachinesApart: two machines have nothing in common.
func TestMachinesApart(t *testing.T) {
	ps := compiled(t, "(define l '(1 2)) (define (f n) (set-car! l n) (display l) (if (< n 5) (f (+ n 1)) 'end)) (display (car l)) (f 2)")
	want := base.Run(ps, ample())
	one, other := made(t, ps, ample()), made(t, ps, ample())
	one.Step(25)
	for other.Step(1) {
		one.Step(2)
	}
	for one.Step(1) {
	}
	if one.Outcome() != want || other.Outcome() != want {
		t.Errorf("%s, %s", told(one.Outcome()), told(other.Outcome()))
	}
	// A program that is run twice begins anew: its constants too.
	if o := base.Run(ps, ample()); o != want {
		t.Error(told(o))
	}
}

// TestAnyArguments: whatever is handed in, every call ends.
func TestAnyArguments(t *testing.T) {
	c := &codeMaker{dice: dice{19088743}}
	numbers := []int{math.MinInt, -1, 0, 1, 63, 64, 65, 100, 4096, api.MaxWords, api.MaxWords + 1, 1 << 40, 1<<40 + 1, math.MaxInt}
	any := func() int { return numbers[c.below(len(numbers))] }
	for range 3000 {
		ps := c.program()
		for range c.below(3) {
			p := &ps[c.below(len(ps))]
			in := &p.Code[c.below(len(p.Code))]
			*in = api.Ins{Op: in.Op + c.below(3) - 1, A: in.A + c.below(3) - 1, B: []int{in.B, any()}[c.below(2)]}
		}
		l := api.Limits{Words: 64 + c.below(100), Fuel: c.below(300), Output: c.below(9), Gc: []int{any(), any(), c.below(50)}}
		switch c.below(8) {
		case 0:
			l.Words = any()
		case 1:
			l.Output = any()
		}
		m, e := base.New(ps, l)
		o := base.Run(ps, l)
		if (m == nil) != (e != api.OK) || (o.How == api.Static) != (m == nil) || o.Err != e {
			t.Fatalf("%d, %s", e, told(o))
		}
		if m == nil {
			continue
		}
		for m.Step(1 + c.below(9)) {
			m.Step(-any())
		}
		if m.Outcome() != o || m.Count() > l.Fuel || len(o.Output) > l.Output {
			t.Fatalf("%s, not %s", told(m.Outcome()), told(o))
		}
	}
}

// TestGreat: programs of great parts.
func TestGreat(t *testing.T) {
	// Data that are far deeper than they may be.
	deep := whole(1)
	for range 200000 {
		deep = api.Datum{Kind: api.List, Items: []api.Datum{deep}}
	}
	if got := told(base.Run(code([]api.Datum{deep}, op(api.OpConst, 0), op(api.OpReturn)), ample())); got != "bound" {
		t.Error(got)
	}
	// Many protos, names and constants.
	ps := []api.Proto{{Code: []api.Ins{op(api.OpClosure, 50000), op(api.OpCall, 0), op(api.OpReturn)}}}
	for range 50000 {
		ps = append(ps, api.Proto{Code: []api.Ins{op(api.OpConst, 1), op(api.OpReturn)}, Consts: []api.Datum{text("a"), text("b")}, Names: []string{"x"}})
	}
	if got := told(base.Run(ps, ample())); got != `value "b"` {
		t.Error(got)
	}
	// All of the greatest heap.
	if got := told(base.Run(compiled(t, "(define v (make-vector 1048574)) (vector-length v)"), api.Limits{Words: api.MaxWords, Fuel: 100})); got != "value 1048574" {
		t.Error(got)
	}
}
