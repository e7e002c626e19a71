package pack_test

import (
	"bytes"
	"cmp"
	"reflect"
	"runtime"
	"runtime/debug"
	"slices"
	"testing"
	"unsafe"

	"tandem/api"
	"tandem/pack"
)

// room is the memory of a list, spare room too.
type room struct {
	from, to uintptr
	answered bool
}

func roomOf[T any](l []T) []room {
	if cap(l) == 0 {
		return nil
	}
	from := uintptr(unsafe.Pointer(unsafe.SliceData(l)))
	return []room{{from: from, to: from + uintptr(cap(l))*unsafe.Sizeof(*new(T))}}
}

func roomOfText(s string) []room {
	if s == "" {
		return nil
	}
	from := uintptr(unsafe.Pointer(unsafe.StringData(s)))
	return []room{{from: from, to: from + uintptr(len(s))}}
}

func roomsOfData(data []api.Datum) []room {
	all := roomOf(data)
	for _, d := range data[:cap(data)] {
		all = append(all, roomOf(d.Num.Mag)...)
		all = append(all, roomsOfData(d.Items)...)
		all = append(all, roomsOfData(d.Rest)...)
	}
	return all
}

func roomsOfProtos(ps []api.Proto) []room {
	all := roomOf(ps)
	for _, p := range ps[:cap(ps)] {
		all = append(all, roomOf(p.Code)...)
		all = append(all, roomOf(p.Names)...)
		all = append(all, roomsOfData(p.Consts)...)
	}
	return all
}

// apart wants that the rooms of an answer neither share memory with each other nor with those that were handed in.
func apart(t *testing.T, answer, handed []room) {
	t.Helper()
	all := slices.Clone(handed)
	for _, r := range answer {
		all = append(all, room{r.from, r.to, true})
	}
	slices.SortFunc(all, func(a, b room) int { return cmp.Compare(a.from, b.from) })
	var answered, given uintptr // up to where there is such memory
	for _, r := range all {
		if r.from < answered || r.answered && r.from < given {
			t.Fatal("a list of an answer shares memory")
		}
		if r.answered {
			answered = max(answered, r.to)
		} else {
			given = max(given, r.to)
		}
	}
}

// roomy is the same list, with spare room that holds something.
func roomy[T any](l []T, spare T) []T {
	all := append(make([]T, 0, len(l)+2), l...)
	all[:len(l)+1][len(l)] = spare
	return all
}

func roomyData(data []api.Datum) []api.Datum {
	all := roomy(data, text("spare"))
	for i, d := range all {
		all[i].Num.Mag = roomy(d.Num.Mag, 77)
		all[i].Items, all[i].Rest = roomyData(d.Items), roomyData(d.Rest)
	}
	return all
}

func roomyProtos(ps []api.Proto) []api.Proto {
	all := roomy(ps, api.Proto{Name: "spare"})
	for i, p := range all {
		all[i].Code, all[i].Names = roomy(p.Code, api.Ins{Op: 77}), roomy(p.Names, "spare")
		all[i].Consts = roomyData(p.Consts)
	}
	return all
}

// wide are protos, and the spare room of their lists, as what can be compared.
func wideData(data []api.Datum) []api.Datum {
	all := slices.Clone(data[:cap(data)])
	for i, d := range all {
		all[i].Num.Mag = slices.Clone(d.Num.Mag[:cap(d.Num.Mag)])
		all[i].Items, all[i].Rest = wideData(d.Items), wideData(d.Rest)
	}
	return all
}

func wideProtos(ps []api.Proto) []api.Proto {
	all := slices.Clone(ps[:cap(ps)])
	for i, p := range all {
		all[i].Code, all[i].Names = slices.Clone(p.Code[:cap(p.Code)]), slices.Clone(p.Names[:cap(p.Names)])
		all[i].Consts = wideData(p.Consts)
	}
	return all
}

// R3: Write turns nothing of a program; spare room, and empty lists for none, turn nothing of what it answers, which is new.
func TestMemoryOfWrite(t *testing.T) {
	m := maker{dice: 3}
	for i := range 3000 {
		plain := m.program()
		if i%2 == 0 {
			plain = m.turnProgram(plain)
		}
		want, wantE := pack.Write(plain)
		ps := roomyProtos(plain)
		before := wideProtos(ps)
		b, e := pack.Write(ps)
		if e != wantE || !bytes.Equal(b, want) {
			t.Fatalf("%+v: error %d, % x, not % x", plain, e, b, want)
		}
		if !reflect.DeepEqual(wideProtos(ps), before) {
			t.Fatalf("%+v: turned", plain)
		}
		apart(t, slices.Concat(roomOf(b), roomOf(want)), roomsOfProtos(ps))
	}
}

// R3: Read turns nothing of the bytes, and what it answers is new, and hangs on them no more.
func TestMemoryOfRead(t *testing.T) {
	m := maker{dice: 4}
	for i := range 3000 {
		plain := written(t, bareNil(m.program()))
		if i%2 == 0 {
			plain = m.turnBytes(plain)
		}
		want, wantE := pack.Read(plain)
		b := roomy(plain, 77)
		ps, e := pack.Read(b)
		if !bytes.Equal(b, plain) || !bytes.Equal(b[len(b):cap(b)], []byte{77, 0}) {
			t.Fatalf("% x: turned", plain)
		}
		apart(t, slices.Concat(roomsOfProtos(ps), roomsOfProtos(want)), roomOf(b))
		for _, p := range ps {
			for _, s := range append([]string{p.Name}, p.Names...) {
				apart(t, roomOfText(s), roomOf(b))
			}
		}
		clear(b[:cap(b)])
		if e != wantE || !reflect.DeepEqual(ps, want) {
			t.Fatalf("% x: error %d, %+v, not %+v", plain, e, ps, want)
		}
	}
}

// bareNil is the same program with none for empty lists.
func bareNil(ps []api.Proto) []api.Proto {
	for i := range ps {
		bareNilData(ps[i].Consts)
	}
	return ps
}

func bareNilData(data []api.Datum) {
	for i, d := range data {
		if len(d.Num.Mag) == 0 {
			data[i].Num.Mag = nil
		}
		bareNilData(d.Items)
		bareNilData(d.Rest)
	}
}

// R1: data that are deeper than calls go, in fields that count and in those that don't.
func TestVeryDeepData(t *testing.T) {
	defer debug.SetMaxStack(debug.SetMaxStack(1 << 20))
	for _, way := range []func(api.Datum) api.Datum{inList, inVector, inRest, func(d api.Datum) api.Datum { return api.Datum{Kind: api.Void, Items: []api.Datum{d}} }, func(d api.Datum) api.Datum { return api.Datum{Rest: []api.Datum{d, d}} }} {
		d := nest(300000, void(), way)
		refusedProgram(t, "very deep", holding(d))
		refusedProgram(t, "very deep within", holding(void(), vector(dotted(d, void()))))
		refusedProgram(t, "very deep in a number", holding(api.Datum{Kind: api.Int, Items: []api.Datum{d}}))
	}
}

// R1: data that stand in themselves, or in one another more often than can be gone through.
func TestEndlessData(t *testing.T) {
	for _, k := range []int{api.List, api.Vector, api.Void, api.Cond, 0} {
		round := make([]api.Datum, 3)
		for i := range round {
			round[i] = api.Datum{Kind: k, Items: round}
		}
		refusedProgram(t, "in itself", holding(round...))
		round[0] = api.Datum{Kind: k, Items: []api.Datum{void()}, Rest: round}
		refusedProgram(t, "in its Rest", holding(round...))
	}
	d := void()
	for range 98 {
		d = vector(d, d, d)
	}
	refusedProgram(t, "three times each", holding(d))
	d = void()
	for range 13 {
		d = list(d, d)
	}
	written(t, holding(d)) // 2^14 - 1 parts
	refusedProgram(t, "twice each", holding(list(d, d)))
}

// R1, R3: bytes that tell of much that is not there take no more memory than what is.
func TestNoRoomForWhatIsNotThere(t *testing.T) {
	const most = "80 80 80 80 80 20"
	var before, after runtime.MemStats
	runtime.ReadMemStats(&before)
	for range 100 {
		for _, digits := range []string{most, "01 " + most, "01 00 00 00 00 " + most, "01 00 00 00 00 00 " + most, "01 00 00 00 00 00 00 " + most, "01 00 00 00 00 00 01 07 " + most, "01 00 00 00 00 00 01 06 " + most, "01 00 00 00 00 00 01 04 " + most, "01 00 00 00 00 00 01 01 00 " + most, "01 00 00 00 00 00 00 01 " + most} {
			refusedBytes(t, digits, append(raw(t, start+digits), make([]byte, 1000)...))
		}
	}
	runtime.ReadMemStats(&after)
	if got := after.TotalAlloc - before.TotalAlloc; got > 20<<20 {
		t.Errorf("%d bytes", got)
	}
}

// R4: other calls turn nothing.
func TestSameAgain(t *testing.T) {
	m := maker{dice: 11}
	var programs [][]api.Proto
	for range 300 {
		programs = append(programs, m.program())
	}
	var first [][]byte
	for range 3 {
		for i, ps := range programs {
			b, _ := writes(t, ps)
			if len(first) <= i {
				first = append(first, b)
			}
			if !bytes.Equal(b, first[i]) {
				t.Fatalf("% x, not % x", b, first[i])
			}
			reads(t, m.turnBytes(b))
			writes(t, m.turnProgram(m.program()))
		}
	}
}
