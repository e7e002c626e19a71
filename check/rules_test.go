package check_test

import (
	"math"
	"reflect"
	"slices"
	"testing"
	"unsafe"

	"tandem/api"
	"tandem/check"
)

// roomy is the same list, with spare room that holds something.
func roomy[T any](l []T, spare T) []T {
	all := append(make([]T, 0, len(l)+2), l...)
	all[:len(l)+1][len(l)] = spare
	return all
}

func roomyProtos(ps []api.Proto) []api.Proto {
	all := roomy(ps, api.Proto{Name: "spare", Code: code("0")})
	for i, p := range all {
		all[i].Code, all[i].Consts, all[i].Names = roomy(p.Code, api.Ins{Op: api.OpReturn}), roomy(p.Consts, api.Datum{Kind: 77}), roomy(p.Names, "spare")
	}
	return all
}

// wideProtos are protos, and the spare room of their lists, as what can be compared.
func wideProtos(ps []api.Proto) []api.Proto {
	all := slices.Clone(ps[:cap(ps)])
	for i, p := range all {
		all[i].Code, all[i].Consts, all[i].Names = slices.Clone(p.Code[:cap(p.Code)]), slices.Clone(p.Consts[:cap(p.Consts)]), slices.Clone(p.Names[:cap(p.Names)])
	}
	return all
}

// R3: nothing that is handed in is turned; spare room is no part of a list.
func TestNothingTurned(t *testing.T) {
	m := maker{dice: 20}
	for n := range 3000 {
		ps := m.program()
		if n%2 == 0 {
			m.turn(ps)
		}
		wide := roomyProtos(ps)
		before := wideProtos(wide)
		if got, want := judged(wide...), judged(ps...); got != want {
			t.Fatalf("%+v: %+v, not %+v", ps, got, want)
		}
		for p := range len(ps) + 1 {
			if got, want := check.Depths(wide, p), check.Depths(ps, p); !slices.Equal(got, want) {
				t.Fatalf("%+v: %v, not %v", ps, got, want)
			}
		}
		if !reflect.DeepEqual(wideProtos(wide), before) {
			t.Fatalf("%+v: turned", ps)
		}
	}
}

// R3: what is answered is new each time, spare room too.
func TestNewMemory(t *testing.T) {
	ps := []api.Proto{plain("const 0, const 1, slide 1, return"), plain("const 0, return")}
	want := []int{0, 1, 2, 1}
	var all [][]int
	for range 50 {
		got := check.Depths(ps, 0)
		if !slices.Equal(got, want) {
			t.Fatalf("%v", got)
		}
		for _, l := range all {
			from, to := uintptr(unsafe.Pointer(unsafe.SliceData(l))), uintptr(unsafe.Pointer(unsafe.SliceData(got)))
			if from < to+uintptr(cap(got))*8 && to < from+uintptr(cap(l))*8 {
				t.Fatal("two answers share memory")
			}
		}
		all = append(all, got)
		clear(got[:cap(got)])
	}
}

// R3: nil and an empty list are one.
func TestEmptyLists(t *testing.T) {
	wants(t, "none", verdict{0, 0, api.ErrCode}, []api.Proto{}...)
	empty := api.Proto{Code: []api.Ins{}, Consts: []api.Datum{}, Names: []string{}}
	wants(t, "no code", verdict{0, 0, api.ErrIndex}, empty)
	empty.Code = code("const 0")
	wants(t, "no constants", verdict{0, 0, api.ErrIndex}, empty)
	empty.Code = code("global 0")
	wants(t, "no names", verdict{0, 0, api.ErrIndex}, empty)
	if check.Depths([]api.Proto{}, 0) != nil {
		t.Error("depths of none")
	}
}

// What constants and names are does not count: data that stand in themselves too.
func TestAnyConstants(t *testing.T) {
	round := make([]api.Datum, 3)
	for i := range round {
		round[i] = api.Datum{Kind: 77 * i, Items: round, Rest: round, Num: api.Num{Neg: true}}
	}
	p := api.Proto{Name: "\x00", Code: code("const 2, global 1, slide 1, return"), Consts: round, Names: []string{"", "\xff"}}
	wants(t, "any constants", verdict{}, p, p)
}

// R1: any numbers anywhere.
func TestAnyNumbers(t *testing.T) {
	d := dice(21)
	numbers := []int{math.MinInt, math.MinInt + 1, -4097, -65, -1, 0, 1, 2, 20, 21, 64, 65, 4096, 4097, math.MaxInt - 1, math.MaxInt}
	number := func() int { return numbers[d.below(len(numbers))] }
	for range 20000 {
		var ps []api.Proto
		for range d.below(4) {
			p := api.Proto{Args: number() * d.below(2), Free: number() * d.below(2), Rest: d.below(4) == 0}
			for range d.below(5) {
				p.Code = append(p.Code, api.Ins{Op: 1 + d.below(21), A: number() * d.below(2), B: number() * d.below(2)})
			}
			ps = append(ps, p)
		}
		same(t, ps)
		check.Depths(ps, number())
	}
}

// R4: other calls turn nothing.
func TestSameAgain(t *testing.T) {
	m := maker{dice: 22}
	var programs [][]api.Proto
	var first []verdict
	for range 300 {
		ps := m.program()
		m.turn(ps)
		programs, first = append(programs, ps), append(first, judged(ps...))
	}
	for range 3 {
		for i, ps := range programs {
			if got := judged(ps...); got != first[i] {
				t.Fatalf("%+v: %+v, not %+v", ps, got, first[i])
			}
			check.Depths(programs[m.below(300)], m.below(4))
		}
	}
}
