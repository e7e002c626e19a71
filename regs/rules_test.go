package regs_test

import (
	"math"
	"reflect"
	"testing"

	"tandem/api"
	"tandem/ir"
	"tandem/regs"
)

// spacious is a list with spare room, in which something stands.
func spacious[T any](list []T, spare T) []T {
	return append(append(make([]T, 0, len(list)+2), list...), spare, spare)[:len(list)]
}

func spaciousCode(c api.Code) api.Code {
	c = copyOf(c)
	for i := range c.Exits {
		e := &c.Exits[i]
		for k := range e.Frames {
			e.Frames[k].Slots = spacious(e.Frames[k].Slots, api.Loc{Kind: 77})
		}
		e.Frames = spacious(e.Frames, api.Frame{Proto: 77})
	}
	for i := range c.Consts {
		d := &c.Consts[i]
		d.Num.Mag, d.Items, d.Rest = spacious(d.Num.Mag, 97), spacious(d.Items, api.Datum{Kind: 98}), spacious(d.Rest, api.Datum{Kind: 98})
	}
	for i := range c.Maps {
		c.Maps[i] = spacious(c.Maps[i], 77)
	}
	c.Ins, c.Exits, c.Consts = spacious(c.Ins, api.RIns{Op: 77}), spacious(c.Exits, api.Exit{}), spacious(c.Consts, api.Datum{Kind: 77})
	c.Raws, c.Names, c.Maps = spacious(c.Raws, 77), spacious(c.Names, "spare"), spacious(c.Maps, []int{77})
	return c
}

func spaciousProtos(ps []api.Proto) []api.Proto {
	for i := range ps {
		p := &ps[i]
		p.Code, p.Names, p.Consts = spacious(p.Code, api.Ins{Op: 77}), spacious(p.Names, "spare"), spacious(p.Consts, api.Datum{Kind: 99})
		for k := range p.Consts {
			d := &p.Consts[k]
			d.Items, d.Num.Mag = spacious(d.Items, api.Datum{Kind: 98}), spacious(d.Num.Mag, 97)
		}
	}
	return spacious(ps, api.Proto{Name: "spare"})
}

// wholeOf is all of a value, lists with their spare room, as copies.
func wholeOf(v reflect.Value) any {
	var all []any
	switch v.Kind() {
	case reflect.Slice:
		for i := range v.Cap() {
			all = append(all, wholeOf(v.Slice(0, v.Cap()).Index(i)))
		}
		return all
	case reflect.Struct:
		for i := range v.NumField() {
			all = append(all, wholeOf(v.Field(i)))
		}
		return all
	}
	return v.Interface()
}

// memory visits all lists of a value.
func memory(v reflect.Value, visit func(list reflect.Value)) {
	switch v.Kind() {
	case reflect.Slice:
		visit(v)
		for i := range v.Len() {
			memory(v.Index(i), visit)
		}
	case reflect.Struct:
		for i := range v.NumField() {
			memory(v.Field(i), visit)
		}
	}
}

// samples are codes that are taken, and such that are not.
func samples() []api.Code {
	k := coderOf(77, 2, 4, 20, 6)
	var all []api.Code
	for i := range 60 {
		k.isMixed = i%4 == 0
		c := k.code(i)
		switch i % 6 {
		case 1:
			c.Maps = make([][]int, len(c.Ins))
			for i := range c.Maps {
				c.Maps[i] = []int{0, i % 6}
			}
		case 2:
			c.Consts = append(c.Consts, manyKinds()...)
		case 3:
			c.Consts, c.Raws = nil, nil
		}
		all = append(all, spaciousCode(c))
	}
	return append(all, spaciousCode(small(99, crowd(20)...)), spaciousCode(api.Code{Proto: 1, Regs: 9, Ins: []api.RIns{in(api.RIf, 0, 2), in(api.RMove, 1, 3), in(api.RBox, 4, 3), in(api.RReturn, 3)}}))
}

// TestHandedIn: R3: nothing that is handed in is changed, spare room included.
func TestHandedIn(t *testing.T) {
	ps := spaciousProtos(roomy(t, 2))
	before := wholeOf(reflect.ValueOf(ps))
	taken := 0
	for _, c := range samples() {
		was := wholeOf(reflect.ValueOf(c))
		for _, n := range []int{8, 40} {
			if _, ok := regs.Assign(ps, c, n); ok {
				taken++
			}
		}
		regs.Live(c)
		if !reflect.DeepEqual(was, wholeOf(reflect.ValueOf(c))) || !reflect.DeepEqual(before, wholeOf(reflect.ValueOf(ps))) {
			t.Fatalf("turned: %s", told(c))
		}
	}
	if taken < 60 {
		t.Errorf("%d are taken", taken)
	}
}

// TestAnswered: R3, R4: what is answered is new memory, no two lists of it share any, and it hangs on nothing but what was handed in.
func TestAnswered(t *testing.T) {
	ps := spaciousProtos(roomy(t, 2))
	type answer struct {
		Code api.Code
		Live [][]int
	}
	type span struct{ from, to uintptr }
	for i, c := range samples() {
		ask := func() answer {
			got, _ := regs.Assign(ps, c, 8+i%20)
			return answer{got, regs.Live(c)}
		}
		got := ask()
		want := reflectCopy(reflect.ValueOf(got)).Interface()
		var all []span
		note := func(l reflect.Value) {
			if l.Cap() > 0 {
				all = append(all, span{l.Pointer(), l.Pointer() + uintptr(l.Cap())*l.Type().Elem().Size()})
			}
		}
		memory(reflect.ValueOf(got), note)
		answered := len(all)
		memory(reflect.ValueOf(c), note)
		memory(reflect.ValueOf(ps), note)
		for i, a := range all[:answered] {
			for _, b := range all[i+1:] {
				if a.from < b.to && b.from < a.to {
					t.Fatalf("lists share memory: %s", told(got.Code))
				}
			}
		}
		memory(reflect.ValueOf(got), func(l reflect.Value) {
			for i := range l.Cap() {
				l.Slice(0, l.Cap()).Index(i).SetZero()
			}
		})
		for range 2 {
			if again := ask(); !reflect.DeepEqual(again, want) {
				t.Fatalf("not the same again: %s", told(again.Code))
			}
		}
	}
}

// TestSharedMemory: R3: lists of one code may share memory when it is handed in.
func TestSharedMemory(t *testing.T) {
	ps := roomy(t, 2)
	c := small(9, in(api.RNew, 3, 2), exits(2, in(api.RPrim, 4, primitive("cons"), 1, 2)), exits(0, in(api.RExit)))
	c.Exits[1].Frames = c.Exits[0].Frames
	c.Exits[2].Frames[0].Slots = c.Exits[0].Frames[0].Slots
	c.Consts = append(c.Consts, c.Consts[2])
	want := assigned(t, ps, copyOf(c), 8)
	got := assigned(t, ps, c, 8)
	seen := map[uintptr]bool{}
	memory(reflect.ValueOf(got), func(l reflect.Value) {
		if l.Len() > 0 && seen[l.Pointer()] {
			t.Fatal("lists share memory")
		}
		seen[l.Pointer()] = true
	})
	if !reflect.DeepEqual(got, want) {
		t.Errorf("%s\nnot %s", told(got), told(want))
	}
}

// TestAnyArguments: R1: whatever is handed in, there is an answer.
func TestAnyArguments(t *testing.T) {
	d := &dice{99}
	ps := roomy(t, 2)
	number := func() int {
		return pick(d, 0, 1, 2, 3, 5, 14, -1, 63, 64, math.MaxInt, math.MinInt, 1<<32, 65536, 0, 1, 2)
	}
	for range 3000 {
		c := api.Code{Proto: number(), Entry: number(), Regs: number(), Slots: number(), Raws: []int64{int64(number())}}
		for range d.below(4) {
			c.Ins = append(c.Ins, api.RIns{Op: number(), A: number(), B: number(), C: number(), D: number(), E: number()})
			c.Exits = append(c.Exits, api.Exit{Frames: []api.Frame{{Proto: number(), Pc: number(), Self: api.Loc{Kind: number(), N: number()}, Slots: []api.Loc{{Kind: number(), N: number()}}}}})
			c.Consts = append(c.Consts, api.Datum{Kind: number(), N: number(), Num: api.Num{Mag: []uint32{1, 2, 3}}})
			c.Maps = append(c.Maps, []int{number(), number()})
		}
		if got, ok := regs.Assign(ps, c, number()); ok && !ir.Sound(ps, c) || !ok && !reflect.DeepEqual(got, api.Code{}) {
			t.Fatal("not sound, and not refused")
		}
		regs.Live(c)
		regs.Assign([]api.Proto{{}, {Args: number(), Free: number(), Code: []api.Ins{{Op: number(), A: number(), B: number()}}}}, c, 8)
	}
	// Sound code with one operand that is anything.
	k := coderOf(7, 2, 4, 12, 5)
	for i := range 3000 {
		c := k.code(2 + i%20)
		x := &c.Ins[d.below(len(c.Ins))]
		*pick(d, &x.Op, &x.A, &x.B, &x.C, &x.D, &x.E) = number()
		if ir.Sound(ps, c) {
			if got, ok := regs.Assign(ps, c, 8); ok && !ir.Sound(ps, got) {
				t.Fatalf("not sound: %s\nof %s", told(got), told(c))
			}
		} else if _, ok := regs.Assign(ps, c, 8); ok {
			t.Fatal("not sound, and not refused")
		}
		if got, want := regs.Live(c), modelLive(c); !sameLists(got, want) {
			t.Fatalf("%v, not %v: %s", got, want, told(c))
		}
	}
}
