package fold_test

import (
	"reflect"
	"slices"
	"testing"

	"tandem/api"
	"tandem/fold"
	"tandem/ir"
)

// A second way to tell what is reached and what is wanted, instruction by instruction.

// nextOf are the instructions that may come behind one.
func nextOf(c api.Code, i int) []int {
	switch x := c.Ins[i]; x.Op {
	case api.RJump:
		return []int{x.A}
	case api.RIf:
		return []int{i + 1, x.B}
	case api.RReturn, api.RTail, api.RExit:
		return nil
	}
	return []int{i + 1}
}

// letters tell of each Op what its A, B, C are: w a register that is written, r one that is read, . nothing of these; E: it may go to an exit.
var letters = map[int]string{
	api.RConst: "w..", api.RRaw: "w..", api.RMove: "wr.", api.RFree: "w..", api.RFreeOf: "wr.", api.RGlobal: "w..E", api.RSetGlo: "r..E",
	api.RUnbox: "wr.E", api.RBox: "wr.", api.RAdd: "wrrE", api.RSub: "wrrE", api.RMul: "wrrE", api.RLess: "wrr", api.RSame: "wrr",
	api.RPrim: "w..E", api.RCar: "wr.E", api.RCdr: "wr.E", api.RIs: "r..E", api.RNew: "wr.", api.RLoad: "wr.E", api.RSave: "rr.",
	api.RJump: "...", api.RIf: "r..", api.RReturn: "r..", api.RTail: "...", api.RExit: "...E",
}

// readsOf are the registers that an instruction reads, or its exit.
func readsOf(c api.Code, i int) []int {
	var all []int
	x := c.Ins[i]
	for k, n := range []int{x.A, x.B, x.C} {
		if letters[x.Op][k] == 'r' {
			all = append(all, n)
		}
	}
	for k := range x.D {
		all = append(all, x.C+k)
	}
	if x.Op == api.RTail {
		for k := range x.B + 1 {
			all = append(all, x.A+k)
		}
	}
	if len(letters[x.Op]) == 4 {
		for _, f := range c.Exits[x.E].Frames {
			for _, l := range append([]api.Loc{f.Self}, f.Slots...) {
				if l.Kind == api.InReg || l.Kind == api.InRaw {
					all = append(all, l.N)
				}
			}
		}
	}
	return all
}

// liveOf are the registers that are wanted ahead of each instruction.
func liveOf(c api.Code) []map[int]bool {
	live := make([]map[int]bool, len(c.Ins))
	for i := range live {
		live[i] = map[int]bool{}
	}
	for turned := true; turned; {
		turned = false
		for i := len(c.Ins) - 1; i >= 0; i-- {
			before := len(live[i])
			for _, r := range readsOf(c, i) {
				live[i][r] = true
			}
			for _, k := range nextOf(c, i) {
				for r := range live[k] {
					if letters[c.Ins[i].Op][0] != 'w' || c.Ins[i].A != r {
						live[i][r] = true
					}
				}
			}
			turned = turned || len(live[i]) != before
		}
	}
	return live
}

// isLean tells what an instruction of code does there that nobody wants; of lean code: an empty text.
func isLean(c api.Code) string {
	reached := map[int]bool{}
	for todo := []int{0}; len(todo) > 0; {
		i := todo[0]
		todo = todo[1:]
		if !reached[i] {
			reached[i] = true
			todo = append(todo, nextOf(c, i)...)
		}
	}
	if len(reached) != len(c.Ins) {
		return "there is an instruction that is never reached"
	}
	live := liveOf(c)
	for i, x := range c.Ins {
		switch x.Op {
		case api.RConst, api.RRaw, api.RMove, api.RFree, api.RFreeOf, api.RBox, api.RLess, api.RSame, api.RNew:
			isWanted := func(k int) bool { return live[k][x.A] }
			if !slices.ContainsFunc(nextOf(c, i), isWanted) {
				return "there is a register that nobody wants"
			}
		}
	}
	return ""
}

// folded is what code is folded to: P16.1 holds of it, as far as it can be told without running it.
func folded(t testing.TB, ps []api.Proto, c api.Code) api.Code {
	t.Helper()
	before := copyOf(c)
	got := fold.Code(ps, c)
	switch {
	case !reflect.DeepEqual(c, before):
		t.Fatalf("what was handed in turned: %s\nwas %s", told(c), told(before))
	case !ir.Sound(ps, c):
		t.Fatalf("a test's code is not sound: %s", told(c))
	case !ir.Sound(ps, got):
		t.Fatalf("not sound: %s\nof %s", told(got), told(c))
	case got.Proto != c.Proto || got.Entry != c.Entry || got.Regs != c.Regs || got.Slots != c.Slots || len(got.Maps) > 0:
		t.Fatalf("not at the same place: %s\nof %s", told(got), told(c))
	case !reflect.DeepEqual(got.Exits, c.Exits) || !slices.Equal(got.Names, c.Names):
		t.Fatalf("other exits, or names: %s\nof %s", told(got), told(c))
	case !slices.Equal(got.Raws[:len(c.Raws)], c.Raws) || !reflect.DeepEqual(got.Consts[:len(c.Consts)], c.Consts):
		t.Fatalf("other raw numbers, or constants: %s\nof %s", told(got), told(c))
	case len(got.Ins) > len(c.Ins):
		t.Fatalf("longer: %s\nof %s", told(got), told(c))
	case hasTwice(got.Raws, len(c.Raws), func(a, b int64) bool { return a == b }) || hasTwice(got.Consts, len(c.Consts), sameDatum):
		t.Fatalf("a number or a constant is put behind others that has been there: %s\nof %s", told(got), told(c))
	case isLean(got) != "":
		t.Fatalf("%s: %s\nof %s", isLean(got), told(got), told(c))
	}
	if again := fold.Code(ps, got); !reflect.DeepEqual(again, got) {
		t.Fatalf("once more: %s\nof %s\nof %s", told(again), told(got), told(c))
	}
	return got
}

// hasTwice tells whether there is, from a place on, what stood ahead of it already.
func hasTwice[T any](list []T, from int, same func(a, b T) bool) bool {
	for i := from; i < len(list); i++ {
		if slices.ContainsFunc(list[:i], func(x T) bool { return same(x, list[i]) }) {
			return true
		}
	}
	return false
}

func sameDatum(a, b api.Datum) bool { return reflect.DeepEqual(a, b) }

// copyOf is code in new memory.
func copyOf(c api.Code) api.Code {
	return reflectCopy(reflect.ValueOf(c)).Interface().(api.Code)
}

func reflectCopy(v reflect.Value) reflect.Value {
	to := reflect.New(v.Type()).Elem()
	switch v.Kind() {
	case reflect.Slice:
		if !v.IsNil() {
			to.Set(reflect.MakeSlice(v.Type(), v.Len(), v.Len()))
		}
		for i := range v.Len() {
			to.Index(i).Set(reflectCopy(v.Index(i)))
		}
	case reflect.Struct:
		for i := range v.NumField() {
			to.Field(i).Set(reflectCopy(v.Field(i)))
		}
	default:
		to.Set(v)
	}
	return to
}
