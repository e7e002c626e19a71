package ir_test

import (
	"math"
	"reflect"
	"slices"
	"testing"

	"tandem/api"
	"tandem/ir"
)

// spacious is a list with spare room, in which something stands.
func spacious[T any](list []T, spare T) []T {
	return append(append(make([]T, 0, len(list)+2), list...), spare, spare)[:len(list)]
}

func spaciousProtos(ps []api.Proto) []api.Proto {
	for i := range ps {
		p := &ps[i]
		p.Code, p.Names = spacious(p.Code, api.Ins{Op: 77}), spacious(p.Names, "spare")
		p.Consts = spacious(p.Consts, api.Datum{Kind: 99})
		for k := range p.Consts {
			d := &p.Consts[k]
			d.Items, d.Num.Mag = spacious(d.Items, api.Datum{Kind: 98}), spacious(d.Num.Mag, 97)
		}
	}
	return spacious(ps, api.Proto{Name: "spare"})
}

func spaciousCode(c api.Code) api.Code {
	c = copied(c)
	for i := range c.Exits {
		e := &c.Exits[i]
		e.Frames = spacious(e.Frames, api.Frame{Proto: 77})
		for k := range e.Frames {
			e.Frames[k].Slots = spacious(e.Frames[k].Slots, api.Loc{Kind: 77})
		}
	}
	for range c.Ins {
		c.Maps = append(c.Maps, spacious([]int{0}, 77))
	}
	c.Ins, c.Exits, c.Maps = spacious(c.Ins, api.RIns{Op: 77}), spacious(c.Exits, api.Exit{}), spacious(c.Maps, []int{77})
	c.Raws, c.Names, c.Consts = spacious(c.Raws, 77), spacious(c.Names, "spare"), spacious(c.Consts, api.Datum{Kind: 77})
	return c
}

// wholeOf is all of a value, lists with their spare room, as copies.
func wholeOf(v reflect.Value) any {
	switch v.Kind() {
	case reflect.Slice:
		var all []any
		for i := range v.Cap() {
			all = append(all, wholeOf(v.Slice(0, v.Cap()).Index(i)))
		}
		return all
	case reflect.Struct:
		var all []any
		for i := range v.NumField() {
			all = append(all, wholeOf(v.Field(i)))
		}
		return all
	}
	return v.Interface()
}

// memory visits all lists of a value.
func memory(v reflect.Value, visit func(list reflect.Value)) {
	switch v.Kind() {
	case reflect.Slice:
		visit(v)
		for i := range v.Len() {
			memory(v.Index(i), visit)
		}
	case reflect.Struct:
		for i := range v.NumField() {
			memory(v.Field(i), visit)
		}
	}
}

const ruled = "(define (g x) (+ x 1)) (define (f n) (do ((i 0 (+ i 1)) (s 'a (list s \"t\" '(1 2) (g i) 4611686018427387904))) ((= i n) s) (set! y 'a)))"

// made is a program with feeds that make much of it.
func made(t *testing.T) ([]api.Proto, []api.Feed) {
	ps := compiled(t, ruled)
	feeds := ints(ps)
	for pc, in := range ps[2].Code {
		if in.Op == api.OpCall {
			feeds = append(feeds, api.Feed{Proto: 2, Pc: pc, Callee: 1})
		}
	}
	return spaciousProtos(ps), spacious(feeds, api.Feed{Proto: 2, Pc: 14, Mask: 4, Callee: 0})
}

// TestHandedIn: R3: nothing that is handed in is changed, spare room included.
func TestHandedIn(t *testing.T) {
	ps, feeds := made(t)
	before := []any{wholeOf(reflect.ValueOf(ps)), wholeOf(reflect.ValueOf(feeds))}
	c := built(t, ps, 2, 0, feeds...)
	if after := []any{wholeOf(reflect.ValueOf(ps)), wholeOf(reflect.ValueOf(feeds))}; !reflect.DeepEqual(before, after) {
		t.Error("Build changed something")
	}
	c = spaciousCode(c)
	code := wholeOf(reflect.ValueOf(c))
	if !ir.Sound(ps, c) {
		t.Error("not sound")
	}
	if !reflect.DeepEqual(code, wholeOf(reflect.ValueOf(c))) || !reflect.DeepEqual(before[0], wholeOf(reflect.ValueOf(ps))) {
		t.Error("Sound changed something")
	}
}

// TestAnswered: R3, R4: code is new memory, no two lists of it share any, and it hangs on nothing but what was handed in.
func TestAnswered(t *testing.T) {
	ps, feeds := made(t)
	for _, entry := range entries(ps, 2) {
		c := built(t, ps, 2, entry, feeds...)
		want := copied(c)
		type span struct{ from, to uintptr }
		var all []span
		note := func(l reflect.Value) {
			if l.Cap() > 0 {
				all = append(all, span{l.Pointer(), l.Pointer() + uintptr(l.Cap())*l.Type().Elem().Size()})
			}
		}
		memory(reflect.ValueOf(c), note)
		answered := len(all)
		memory(reflect.ValueOf(ps), note)
		memory(reflect.ValueOf(feeds), note)
		for i, a := range all[:answered] {
			for _, b := range all[i+1:] {
				if a.from < b.to && b.from < a.to {
					t.Fatal("lists share memory")
				}
			}
		}
		for range 3 {
			if again := built(t, ps, 2, entry, feeds...); !reflect.DeepEqual(copied(again), want) {
				t.Fatal("not the same again")
			}
		}
		rest := slices.Clone(feeds)
		slices.Reverse(rest)
		if other := built(t, ps, 2, entry, append(rest, feeds...)...); !reflect.DeepEqual(copied(other), want) {
			t.Fatal("the order of feeds, or how often they are handed in, is to be seen")
		}
		memory(reflect.ValueOf(c), func(l reflect.Value) {
			for i := range l.Cap() {
				l.Slice(0, l.Cap()).Index(i).SetZero()
			}
		})
		if again := built(t, ps, 2, entry, feeds...); !reflect.DeepEqual(copied(again), want) {
			t.Fatal("an answer that was turned is to be seen")
		}
	}
}

// TestAnyArguments: R1: whatever is handed in, there is an answer.
func TestAnyArguments(t *testing.T) {
	numbers := []int{0, 1, 2, 3, 14, -1, 63, 64, math.MaxInt, math.MinInt, 1 << 32, 65536}
	ps, _ := made(t)
	d := &dice{77}
	number := func() int { return pick(d, numbers...) }
	for range 3000 {
		var feeds []api.Feed
		for range d.below(5) {
			feeds = append(feeds, api.Feed{Proto: number(), Pc: number(), Mask: number(), Callee: number()})
		}
		if c, ok := ir.Build(ps, number(), number(), feeds...); ok != ir.Sound(ps, c) {
			t.Fatal("code that is not sound, or none that is")
		}
		c := api.Code{Proto: number(), Entry: number(), Regs: number(), Slots: number(), Raws: []int64{int64(number())}}
		for range d.below(3) {
			c.Ins = append(c.Ins, api.RIns{Op: number(), A: number(), B: number(), C: number(), D: number(), E: number()})
			c.Exits = append(c.Exits, api.Exit{Frames: []api.Frame{{Proto: number(), Pc: number(), Self: api.Loc{Kind: number(), N: number()}, Slots: []api.Loc{{Kind: number(), N: number()}}}}})
			c.Consts = append(c.Consts, api.Datum{Kind: number(), N: number(), Num: api.Num{Mag: []uint32{1, 2, 3}}})
			c.Maps = append(c.Maps, []int{number(), number()})
		}
		if ir.Sound(ps, c) && !modelSound(ps, c) {
			t.Fatal("sound, though it is not")
		}
		ir.Sound([]api.Proto{{}, {Args: number(), Free: number(), Code: []api.Ins{{Op: number(), A: number(), B: number()}}}}, c)
	}
}
