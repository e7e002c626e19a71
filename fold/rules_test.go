package fold_test

import (
	"math"
	"reflect"
	"testing"

	"tandem/api"
	"tandem/fold"
	"tandem/ir"
)

// spacious is a list with spare room, in which something stands.
func spacious[T any](list []T, spare T) []T {
	return append(append(make([]T, 0, len(list)+2), list...), spare, spare)[:len(list)]
}

func spaciousCode(c api.Code) api.Code {
	c = copyOf(c)
	for i := range c.Exits {
		e := &c.Exits[i]
		for k := range e.Frames {
			e.Frames[k].Slots = spacious(e.Frames[k].Slots, api.Loc{Kind: 77})
		}
		e.Frames = spacious(e.Frames, api.Frame{Proto: 77})
	}
	for i := range c.Consts {
		d := &c.Consts[i]
		d.Num.Mag, d.Items, d.Rest = spacious(d.Num.Mag, 97), spacious(d.Items, api.Datum{Kind: 98}), spacious(d.Rest, api.Datum{Kind: 98})
	}
	for i := range c.Maps {
		c.Maps[i] = spacious(c.Maps[i], 77)
	}
	c.Ins, c.Exits, c.Consts = spacious(c.Ins, api.RIns{Op: 77}), spacious(c.Exits, api.Exit{}), spacious(c.Consts, api.Datum{Kind: 77})
	c.Raws, c.Names, c.Maps = spacious(c.Raws, 77), spacious(c.Names, "spare"), spacious(c.Maps, []int{77})
	return c
}

func spaciousProtos(ps []api.Proto) []api.Proto {
	for i := range ps {
		p := &ps[i]
		p.Code, p.Names, p.Consts = spacious(p.Code, api.Ins{Op: 77}), spacious(p.Names, "spare"), spacious(p.Consts, api.Datum{Kind: 99})
		for k := range p.Consts {
			d := &p.Consts[k]
			d.Items, d.Num.Mag = spacious(d.Items, api.Datum{Kind: 98}), spacious(d.Num.Mag, 97)
		}
	}
	return spacious(ps, api.Proto{Name: "spare"})
}

// wholeOf is all of a value, lists with their spare room, as copies.
func wholeOf(v reflect.Value) any {
	var all []any
	switch v.Kind() {
	case reflect.Slice:
		for i := range v.Cap() {
			all = append(all, wholeOf(v.Slice(0, v.Cap()).Index(i)))
		}
		return all
	case reflect.Struct:
		for i := range v.NumField() {
			all = append(all, wholeOf(v.Field(i)))
		}
		return all
	}
	return v.Interface()
}

// memory visits all lists of a value.
func memory(v reflect.Value, visit func(list reflect.Value)) {
	switch v.Kind() {
	case reflect.Slice:
		visit(v)
		for i := range v.Len() {
			memory(v.Index(i), visit)
		}
	case reflect.Struct:
		for i := range v.NumField() {
			memory(v.Field(i), visit)
		}
	}
}

// samples are codes that are folded, and such that are not.
func samples() []api.Code {
	k := &coder{dice: dice{77}}
	var all []api.Code
	for i := range 60 {
		c := k.code(i)
		switch i % 6 {
		case 1:
			c.Maps = make([][]int, len(c.Ins))
			for i := range c.Maps {
				c.Maps[i] = []int{0, i % 6}
			}
		case 2:
			c.Consts = append(c.Consts, manyKinds()...)
			c.Consts[0] = deep(9)
		}
		all = append(all, spaciousCode(c))
	}
	return append(all, spaciousCode(small(in(api.RRaw, 6, 1), in(api.RAdd, 6, 6, 6), in(api.RBox, 7, 6), in(api.RReturn, 7))))
}

// TestHandedIn: R3: nothing that is handed in is changed, spare room included.
func TestHandedIn(t *testing.T) {
	ps := spaciousProtos(roomy(t))
	before := wholeOf(reflect.ValueOf(ps))
	for _, c := range samples() {
		was := wholeOf(reflect.ValueOf(c))
		fold.Code(ps, c)
		fold.Size(c, c)
		if !reflect.DeepEqual(was, wholeOf(reflect.ValueOf(c))) || !reflect.DeepEqual(before, wholeOf(reflect.ValueOf(ps))) {
			t.Fatalf("turned: %s", told(c))
		}
	}
}

// TestAnswered: R3, R4: what is answered is new memory, no two lists of it share any, and it hangs on nothing but what was handed in.
func TestAnswered(t *testing.T) {
	ps := spaciousProtos(roomy(t))
	type span struct{ from, to uintptr }
	for _, c := range samples() {
		got := fold.Code(ps, c)
		want := copyOf(got)
		var all []span
		note := func(l reflect.Value) {
			if l.Cap() > 0 {
				all = append(all, span{l.Pointer(), l.Pointer() + uintptr(l.Cap())*l.Type().Elem().Size()})
			}
		}
		memory(reflect.ValueOf(got), note)
		answered := len(all)
		memory(reflect.ValueOf(c), note)
		memory(reflect.ValueOf(ps), note)
		for i, a := range all[:answered] {
			for _, b := range all[i+1:] {
				if a.from < b.to && b.from < a.to {
					t.Fatalf("lists share memory: %s", told(got))
				}
			}
		}
		memory(reflect.ValueOf(got), func(l reflect.Value) {
			for i := range l.Cap() {
				l.Slice(0, l.Cap()).Index(i).SetZero()
			}
		})
		for range 2 {
			if again := fold.Code(ps, c); !reflect.DeepEqual(again, want) {
				t.Fatalf("not the same again: %s", told(again))
			}
		}
	}
}

// TestSharedMemory: R3: lists of one code may share memory when it is handed in.
func TestSharedMemory(t *testing.T) {
	c := small(in(api.RReturn))
	c.Exits[1].Frames, c.Exits[2].Frames[0].Slots = c.Exits[0].Frames, c.Exits[2].Frames[1].Slots
	c.Consts = append(c.Consts, c.Consts[:2]...)
	c.Consts[9].Num.Mag = c.Consts[8].Num.Mag
	got := fold.Code(nil, c)
	seen := map[uintptr]bool{}
	memory(reflect.ValueOf(got), func(l reflect.Value) {
		if l.Len() > 0 && seen[l.Pointer()] {
			t.Fatal("lists share memory")
		}
		seen[l.Pointer()] = true
	})
	if !reflect.DeepEqual(got, c) {
		t.Error(told(got))
	}
}

// TestAnyArguments: R1: whatever is handed in, there is an answer.
func TestAnyArguments(t *testing.T) {
	d := &dice{99}
	ps := roomy(t)
	number := func() int {
		return pick(d, 0, 1, 2, 3, 5, 14, -1, 63, 64, math.MaxInt, math.MinInt, 1<<32, 65536, 0, 1, 2)
	}
	for range 3000 {
		c := api.Code{Proto: number(), Entry: number(), Regs: number(), Slots: number(), Raws: []int64{int64(number())}}
		for range d.below(4) {
			c.Ins = append(c.Ins, api.RIns{Op: number(), A: number(), B: number(), C: number(), D: number(), E: number()})
			c.Exits = append(c.Exits, api.Exit{Frames: []api.Frame{{Proto: number(), Pc: number(), Self: api.Loc{Kind: number(), N: number()}, Slots: []api.Loc{{Kind: number(), N: number()}}}}})
			c.Consts = append(c.Consts, api.Datum{Kind: number(), N: number(), Num: api.Num{Mag: []uint32{1, 2, 3}}})
			c.Maps = append(c.Maps, []int{number(), number()})
		}
		if got := fold.Code(ps, c); !ir.Sound(ps, c) && !reflect.DeepEqual(got, c) {
			t.Fatal("not sound, and not as it was")
		}
		fold.Code([]api.Proto{{}, {Args: number(), Free: number(), Code: []api.Ins{{Op: number(), A: number(), B: number()}}}}, c)
	}
	// Sound code with one operand that is anything.
	k := &coder{dice: dice{7}}
	for i := range 3000 {
		c := k.code(2 + i%20)
		x := &c.Ins[d.below(len(c.Ins))]
		*pick(d, &x.Op, &x.A, &x.B, &x.C, &x.D, &x.E) = number()
		if ir.Sound(ps, c) {
			folded(t, ps, c)
		} else if !reflect.DeepEqual(fold.Code(ps, c), c) {
			t.Fatal("not sound, and not as it was")
		}
	}
}
