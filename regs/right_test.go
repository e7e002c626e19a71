package regs_test

import (
	"reflect"
	"slices"
	"strings"
	"testing"

	"tandem/api"
	"tandem/check"
	"tandem/fold"
	"tandem/ir"
	"tandem/regs"
)

// assigned is what code comes to with n registers: P17.1 and P17.3 hold of it, as far as it can be told without running it.
func assigned(t testing.TB, ps []api.Proto, c api.Code, n int) api.Code {
	t.Helper()
	before := copyOf(c)
	got, ok := regs.Assign(ps, c, n)
	switch {
	case !reflect.DeepEqual(c, before):
		t.Fatalf("what was handed in turned: %s\nwas %s", told(c), told(before))
	case !ir.Sound(ps, c):
		t.Fatalf("a test's code is not sound: %s", told(c))
	case !ok:
		t.Fatalf("not with %d registers: %s", n, told(c))
	case !ir.Sound(ps, got):
		t.Fatalf("not sound: %s\nof %s", told(got), told(c))
	case got.Proto != c.Proto || got.Entry != c.Entry || got.Regs > n || len(got.Maps) != len(got.Ins):
		t.Fatalf("not at the same place, or too many registers, or no maps: %s\nof %s", told(got), told(c))
	case len(got.Exits) != len(c.Exits) || !slices.Equal(got.Names, c.Names):
		t.Fatalf("other exits, or names: %s\nof %s", told(got), told(c))
	case !slices.Equal(got.Raws[:len(c.Raws)], c.Raws) || !slices.EqualFunc(got.Consts[:len(c.Consts)], c.Consts, sameDatum):
		t.Fatalf("other raw numbers, or constants: %s\nof %s", told(got), told(c))
	}
	for i, live := range regs.Live(got) {
		if slices.ContainsFunc(got.Maps[i], func(r int) bool { return !slices.Contains(live, r) }) {
			t.Fatalf("at %d there is on the map what nobody wants: %s", i, told(got))
		}
	}
	return got
}

// alike tells whether code with few registers comes to what code comes to, in so many worlds, as it is and with a guard that fails. How the code's runs ended is counted.
func alike(t testing.TB, d *dice, ends map[string]int, ps []api.Proto, c, few api.Code, worlds int) {
	t.Helper()
	live, depth := modelLive(few), check.Depths(ps, c.Proto)[c.Entry]
	for range worlds {
		seed := uint64(d.below(1<<20)) + 1
		end, guards := same(t, seed, -1, depth, live, ps, c, few)
		ends[firstWord(end)]++
		if guards > 0 && end != broken {
			same(t, seed, d.below(guards), depth, live, ps, c, few)
		}
	}
}

// same is how a run of code ends, and how many guards are done; the run of code with few registers must come to the same.
func same(t testing.TB, seed uint64, fails, depth int, live [][]int, ps []api.Proto, c, few api.Code) (string, int) {
	t.Helper()
	const fuel = 300
	was, is := worldOf(ps, c, seed, depth), worldOf(ps, few, seed, depth)
	was.fails, is.fails, is.live = fails, fails, live
	want := was.run(fuel)
	if want == broken {
		return want, 0
	}
	got := is.run(40*fuel + 200)
	switch {
	case is.fault != "":
		t.Fatalf("seed %d: %s is not as its map says: %s\nof %s", seed, is.fault, told(few), told(c))
	case want == endless && !strings.HasPrefix(string(is.out), string(was.out)):
		t.Fatalf("%q is put out, not %q: %s\nof %s", is.out, was.out, told(few), told(c))
	case want != endless && (got != want || is.guards != was.guards):
		t.Fatalf("seed %d, guard %d fails: %s\nnot %s: %s\nof %s", seed, fails, got, want, told(few), told(c))
	}
	return want, was.guards
}

func firstWord(text string) string {
	word, _, _ := strings.Cut(text, " ")
	return word
}

// TestMadeCode: P17.1, P17.3: code of all instructions, sound, comes to the same with few registers.
func TestMadeCode(t *testing.T) {
	ends := map[string]int{}
	d := &dice{5}
	for i := range 3000 {
		n := pick(d, 8, 8, 9, 10, 12, 16, 33, 64)
		args := 1 + d.below(n-5)
		k := coderOf(uint64(i)+77, args, n-4, args+1+d.below(2*n), 1+d.below(n))
		k.isEntered, k.isMixed = i%3 == 0, i%2 == 0
		ps := roomy(t, args)
		c := k.code(3 + i%60)
		few := assigned(t, ps, c, n)
		alike(t, d, ends, ps, c, few, 4)
	}
	if ends["returns"] < 1000 || ends["calls"] < 500 || ends["goes"] < 2000 {
		t.Errorf("%v", ends)
	}
}

// TestBuiltCode: P17.1, P17.3, W2: what layer 15 builds, of whatever feeds, folded or not, comes to the same with few registers.
func TestBuiltCode(t *testing.T) {
	d := &dice{2463534242}
	ends := map[string]int{}
	for _, source := range sources() {
		ps := compiled(t, source)
		for p := 1; p < len(ps); p++ {
			for entry, depth := range check.Depths(ps, p) {
				if depth < 0 || entry > 0 && ps[p].Code[entry].Op != api.OpLoop {
					continue
				}
				for i := range 20 {
					c, ok := ir.Build(ps, p, entry, feeds(d, ps, i)...)
					if !ok {
						t.Fatal("no code")
					}
					if i%2 == 0 {
						c = fold.Code(ps, c)
					}
					few := assigned(t, ps, c, pick(d, 10, 12, 16, 64))
					alike(t, d, ends, ps, c, few, 5)
					if ends[broken] > 0 {
						t.Fatalf("what is built breaks: %s", told(c))
					}
				}
			}
		}
	}
	if ends["returns"] < 500 || ends["calls"] < 100 || ends["goes"] < 1000 {
		t.Errorf("%v", ends)
	}
}

func feeds(d *dice, ps []api.Proto, i int) []api.Feed {
	var all []api.Feed
	for n, p := range ps {
		for pc := range p.Code {
			x := api.Feed{Proto: n, Pc: pc, Mask: 2, Callee: d.below(len(ps)+1) - 1}
			if i%3 == 1 {
				x.Mask = d.below(1 << 11)
			}
			if i%5 > 0 {
				all = append(all, x)
			}
		}
	}
	return all
}

func sameDatum(a, b api.Datum) bool { return reflect.DeepEqual(a, b) }

// copyOf is code in new memory.
func copyOf(c api.Code) api.Code {
	return reflectCopy(reflect.ValueOf(c)).Interface().(api.Code)
}

func reflectCopy(v reflect.Value) reflect.Value {
	to := reflect.New(v.Type()).Elem()
	switch v.Kind() {
	case reflect.Slice:
		if !v.IsNil() {
			to.Set(reflect.MakeSlice(v.Type(), v.Len(), v.Len()))
		}
		for i := range v.Len() {
			to.Index(i).Set(reflectCopy(v.Index(i)))
		}
	case reflect.Struct:
		for i := range v.NumField() {
			to.Field(i).Set(reflectCopy(v.Field(i)))
		}
	default:
		to.Set(v)
	}
	return to
}
