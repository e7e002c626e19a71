package fold_test

import (
	"strings"
	"testing"

	"tandem/api"
	"tandem/check"
	"tandem/ir"
)

// alike tells whether folded code comes to what code comes to in one world, by as many instructions at most. How the code's run ended is answered.
func alike(t testing.TB, d *dice, ps []api.Proto, c, folded api.Code, fuel int) string {
	t.Helper()
	seed, depth := uint64(d.below(1<<20))+1, check.Depths(ps, c.Proto)[c.Entry]
	was := worldOf(ps, c, seed, depth)
	is := worldOf(ps, folded, seed, depth)
	want := was.run(fuel)
	if want == broken {
		return want
	}
	got := is.run(fuel)
	if want == endless {
		if !strings.HasPrefix(string(is.out), string(was.out)) {
			t.Fatalf("%q is put out, not %q: %s\nof %s", is.out, was.out, told(folded), told(c))
		}
		return want
	}
	if got != want || is.steps > was.steps {
		t.Fatalf("seed %d: %s\nin %d steps, not %s\nin %d: %s\nof %s", seed, got, is.steps, want, was.steps, told(folded), told(c))
	}
	if len(is.guards) > 0 && isApart(c) {
		g := pick(d, is.guards...) // it fails, though it would not
		was, is := worldOf(ps, c, seed, depth), worldOf(ps, folded, seed, depth)
		was.fails, is.fails = map[guard]bool{g: true}, map[guard]bool{g: true}
		if want, got := was.run(fuel), is.run(fuel); got != want {
			t.Fatalf("seed %d, where %v fails: %s\nnot %s: %s\nof %s", seed, g, got, want, told(folded), told(c))
		}
	}
	return want
}

func firstWord(text string) string {
	word, _, _ := strings.Cut(text, " ")
	return word
}

// TestMadeCode: P16.1: code of all instructions, sound, though not right in all else, comes to the same when it is folded.
func TestMadeCode(t *testing.T) {
	ps := roomy(t)
	k := &coder{dice: dice{88172645463325252}}
	ends, shorter, was := map[string]int{}, 0, 0
	for i := range 8000 {
		k.isShared = i%3 == 0
		c := k.code(3 + i%40)
		got := folded(t, ps, c)
		was, shorter = was+len(c.Ins), shorter+len(c.Ins)-len(got.Ins)
		for range 4 {
			ends[firstWord(alike(t, &k.dice, ps, c, got, 300))]++
		}
	}
	if ends["returns"] < 2000 || ends["calls"] < 2000 || ends["goes"] < 5000 || shorter < was/4 {
		t.Errorf("%v, %d of %d left out", ends, shorter, was)
	}
}

// isApart tells whether guards have an exit for each, by which they can be told.
func isApart(c api.Code) bool {
	seen := map[int]bool{}
	for _, x := range c.Ins {
		if len(letters[x.Op]) == 4 && seen[x.E] {
			return false
		}
		seen[x.E] = seen[x.E] || len(letters[x.Op]) == 4
	}
	return true
}

// apart is code whose guards have an exit for each.
func apart(c api.Code) api.Code {
	c = copyOf(c)
	old := c.Exits
	c.Exits = nil
	for i, x := range c.Ins {
		if len(letters[x.Op]) == 4 {
			c.Ins[i].E = len(c.Exits)
			c.Exits = append(c.Exits, copyOf(api.Code{Exits: old[x.E : x.E+1]}).Exits...)
		}
	}
	return c
}

// TestBuiltCode: P16.1, W2: what layer 15 builds, of whatever feeds, comes to the same when it is folded.
func TestBuiltCode(t *testing.T) {
	d := &dice{2463534242}
	ends, shorter, was := map[string]int{}, 0, 0
	for _, source := range sources() {
		ps := compiled(t, source)
		for p := 1; p < len(ps); p++ {
			for entry, depth := range check.Depths(ps, p) {
				if depth < 0 || entry > 0 && ps[p].Code[entry].Op != api.OpLoop {
					continue
				}
				for i := range 30 {
					c, ok := ir.Build(ps, p, entry, feeds(d, ps, i)...)
					if !ok {
						t.Fatal("no code")
					}
					got := folded(t, ps, c)
					was, shorter = was+len(c.Ins), shorter+len(c.Ins)-len(got.Ins)
					alike(t, d, ps, c, got, 400)
					c = apart(c)
					got = folded(t, ps, c)
					for range 5 {
						end := alike(t, d, ps, c, got, 400)
						if end == broken {
							t.Fatalf("what is built breaks: %s", told(c))
						}
						ends[firstWord(end)]++
					}
				}
			}
		}
	}
	if ends["returns"] < 1000 || ends["calls"] < 100 || ends["goes"] < 1000 || shorter < was/20 {
		t.Errorf("%v, %d of %d left out", ends, shorter, was)
	}
}

func feeds(d *dice, ps []api.Proto, i int) []api.Feed {
	var all []api.Feed
	for n, p := range ps {
		for pc := range p.Code {
			x := api.Feed{Proto: n, Pc: pc, Mask: 2, Callee: d.below(len(ps)+1) - 1}
			if i%3 == 1 {
				x.Mask = d.below(1 << 11)
			}
			if i%5 > 0 {
				all = append(all, x)
			}
		}
	}
	return all
}
