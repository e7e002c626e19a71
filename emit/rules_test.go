package emit_test

import (
	"cmp"
	"reflect"
	"runtime/debug"
	"slices"
	"testing"
	"unsafe"

	"tandem/api"
	"tandem/emit"
)

// room is the memory of a list, spare room too.
type room struct {
	from, to uintptr
	answered bool
}

func roomOf[T any](l []T) []room {
	if cap(l) == 0 {
		return nil
	}
	from := uintptr(unsafe.Pointer(unsafe.SliceData(l)))
	return []room{{from: from, to: from + uintptr(cap(l))*unsafe.Sizeof(*new(T))}}
}

func roomsOfData(data []api.Datum) []room {
	all := roomOf(data)
	for _, d := range data[:cap(data)] {
		all = append(all, roomOf(d.Num.Mag)...)
		all = append(all, roomsOfData(d.Items)...)
		all = append(all, roomsOfData(d.Rest)...)
	}
	return all
}

func roomsOfCores(cores []api.Core) []room {
	all := roomOf(cores)
	for _, c := range cores[:cap(cores)] {
		all = append(all, roomOf(c.Vars)...)
		all = append(all, roomsOfData(c.D)...)
		all = append(all, roomsOfCores(c.Subs)...)
	}
	return all
}

func roomsOfProtos(ps []api.Proto) []room {
	all := roomOf(ps)
	for _, p := range ps[:cap(ps)] {
		all = append(all, roomOf(p.Code)...)
		all = append(all, roomOf(p.Names)...)
		all = append(all, roomsOfData(p.Consts)...)
	}
	return all
}

// apart wants that the rooms of an answer neither share memory with each other nor with those that were handed in.
func apart(t *testing.T, answer, handed []room) {
	t.Helper()
	all := slices.Clone(handed)
	for _, r := range answer {
		all = append(all, room{r.from, r.to, true})
	}
	slices.SortFunc(all, func(a, b room) int { return cmp.Compare(a.from, b.from) })
	var answered, given uintptr // up to where there is such memory
	for _, r := range all {
		if r.from < answered || r.answered && r.from < given {
			t.Fatal("a list of an answer shares memory")
		}
		if r.answered {
			answered = max(answered, r.to)
		} else {
			given = max(given, r.to)
		}
	}
}

// roomyData, roomyCores are the same, with spare room in all lists, and empty lists for none.
func roomyData(data []api.Datum) []api.Datum {
	all := make([]api.Datum, 0, len(data)+2)
	for _, d := range data {
		d.Num.Mag = append(make([]uint32, 0, len(d.Num.Mag)+2), d.Num.Mag...)
		d.Items, d.Rest = roomyData(d.Items), roomyData(d.Rest)
		all = append(all, d)
	}
	all[:len(data)+1][len(data)] = text("spare")
	return all
}

func roomyCores(cores []api.Core) []api.Core {
	all := make([]api.Core, 0, len(cores)+2)
	for _, c := range cores {
		c.Vars = append(make([]int, 0, len(c.Vars)+2), c.Vars...)
		c.D, c.Subs = roomyData(c.D), roomyCores(c.Subs)
		all = append(all, c)
	}
	all[:len(cores)+1][len(cores)] = global("spare")
	return all
}

// wide are forms, and the spare room of their lists, as what can be compared.
func wideData(data []api.Datum) []api.Datum {
	all := slices.Clone(data[:cap(data)])
	for i, d := range all {
		all[i].Num.Mag = slices.Clone(d.Num.Mag[:cap(d.Num.Mag)])
		all[i].Items, all[i].Rest = wideData(d.Items), wideData(d.Rest)
	}
	return all
}

func wideCores(cores []api.Core) []api.Core {
	all := slices.Clone(cores[:cap(cores)])
	for i, c := range all {
		all[i].Vars = slices.Clone(c.Vars[:cap(c.Vars)])
		all[i].D, all[i].Subs = wideData(c.D), wideCores(c.Subs)
	}
	return all
}

// spoil makes others of all that is in these lists.
func spoilData(data []api.Datum) {
	for i, d := range data {
		spoilData(d.Items)
		spoilData(d.Rest)
		for j := range d.Num.Mag {
			d.Num.Mag[j] += 77
		}
		data[i] = text("spoilt")
	}
}

func spoilCores(cores []api.Core) {
	for i, c := range cores {
		for j := range c.Vars {
			c.Vars[j] += 77
		}
		spoilData(c.D)
		spoilCores(c.Subs)
		cores[i] = global("spoilt")
	}
}

// oddData are constants of all kinds, with fields that their kinds do not have.
func oddData() []api.Datum {
	inner := []api.Datum{whole(1 << 40), text("a"), list(symbol("b"))}
	all := []api.Datum{dotted(vector(whole(1<<40)), whole(-5), list()), condition(inner...), whole(1 << 50), vector(list(dotted(whole(7), text("x"))))}
	for kind := range 13 {
		all = append(all, api.Datum{Kind: kind - 1, N: 3, Num: whole(1 << 35).Num, Text: "t", Items: inner, Rest: inner})
	}
	return all
}

// R3: what is handed in stays as it is, answers are new memory, and hang on the former no more; spare room, and nil for empty lists, turn nothing.
func TestMemory(t *testing.T) {
	programs := seeds(t)
	for _, d := range oddData() {
		programs = append(programs, []api.Core{data(d), lambda(nil, data(d)), data(d), data(list(d, d))})
	}
	m := maker{dice: 5}
	for range 1500 {
		programs = append(programs, m.turned(m.program()), m.program())
	}
	for _, plain := range programs {
		ps, wantE := emit.Program(plain)
		want := toldAll(ps)
		cores := roomyCores(plain)
		before := wideCores(cores)
		ps, e := emit.Program(cores)
		if !reflect.DeepEqual(wideCores(cores), before) {
			t.Fatalf("%s: turned", brief(plain))
		}
		apart(t, roomsOfProtos(ps), roomsOfCores(cores))
		spoilCores(cores)
		if e != wantE || toldAll(ps) != want {
			t.Fatalf("%s: error %d\n%s\nnot\n%s", brief(plain), e, toldAll(ps), want)
		}
	}
}

// Constants are told as they were, whatever stands in them.
func TestConstantsAsTheyAre(t *testing.T) {
	for _, d := range oddData() {
		ps, e := emit.Program([]api.Core{data(d), data(d)})
		if e != api.OK || !reflect.DeepEqual(ps[0].Consts[0], d) {
			t.Errorf("error %d: %+v, not %+v", e, ps, d)
		}
		if alone := d.Kind == api.List || d.Kind == api.Vector || d.Kind == api.String; alone != (len(ps[0].Consts) == 2) {
			t.Errorf("kind %d: %d constants", d.Kind, len(ps[0].Consts))
		}
	}
}

// R1: what is no part of a datum may be deeper than calls go.
func TestVeryDeepData(t *testing.T) {
	defer debug.SetMaxStack(debug.SetMaxStack(1 << 20))
	for _, way := range deepWays() {
		d := nested(200000, whole(1), way)
		refused(t, api.ErrArg, data(d))
		if _, e := emit.Program([]api.Core{data(api.Datum{Kind: api.Void, Items: []api.Datum{d}})}); e != api.OK {
			t.Errorf("error %d", e)
		}
	}
}

// R4: other calls turn nothing.
func TestSameAgain(t *testing.T) {
	programs := seeds(t)
	m := maker{dice: 11}
	var first []string
	for round := range 3 {
		for i, cores := range programs {
			ps, _ := emit.Program(cores)
			if round == 0 {
				first = append(first, toldAll(ps))
			} else if told := toldAll(ps); told != first[i] {
				t.Errorf("%s:\n%s\nnot\n%s", brief(cores), told, first[i])
			}
			emit.Program(m.turned(m.program()))
		}
	}
}

// Much of all: constants, names, variables, procedures; in time.
func TestMuch(t *testing.T) {
	var constants, names, procedures []api.Core
	for i := range api.MaxCore {
		constants = append(constants, konst(int64(i)))
		names = append(names, global(string(rune('a'+i))))
	}
	for i := range api.MaxCore / 2 {
		procedures = append(procedures, lambda([]int{i}, local(i)))
	}
	if ps := made(t, constants...); len(ps[0].Consts) != api.MaxCore {
		t.Errorf("%d constants", len(ps[0].Consts))
	}
	if ps := made(t, names...); len(ps[0].Names) != api.MaxCore {
		t.Errorf("%d names", len(ps[0].Names))
	}
	if ps := made(t, procedures...); len(ps) != api.MaxCore/2+1 {
		t.Errorf("%d protos", len(ps))
	}
	c := sequence(many(65, local(3))...)
	for i := range 9000 {
		c = lambda([]int{i + 100}, c)
	}
	ps := made(t, lambda(vars(0, 9), c))
	if last := ps[len(ps)-1]; len(ps) != 9002 || last.Free != 1 {
		t.Errorf("%d protos, %d values", len(ps), last.Free)
	}
}
