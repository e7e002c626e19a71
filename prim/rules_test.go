package prim_test

import (
	"slices"
	"testing"

	"tandem/api"
	"tandem/prim"
	"tandem/value"
)

func wantWords(t *testing.T, s *value.Store, want []uint64) {
	t.Helper()
	if got := s.Words(); !slices.Equal(got, want) {
		t.Fatalf("%v, not %v", got, want)
	}
}

// P12.3: arguments that are headers, or pointers to no objects, count as Void.
func TestNoValues(t *testing.T) {
	const pair = 4 // the first object of a heap
	for _, w := range []uint64{3, 7, 1<<64 - 1, 0, pair + 4, pair + 8, 1 << 40, 1<<64 - 4} {
		s := store(t, 2000)
		made(t)(s.Cons(fix(1), Empty))
		for name, want := range map[string]uint64{"pair?": False, "list?": False, "procedure?": False, "number?": False, "append": Void, "void": Void, "not": False} {
			if c := do(t, s, name, w); c != (come{want, "", api.Done}) {
				t.Errorf("%s of %d: %+v", name, w, c)
			}
		}
		if c := do(t, s, "eq?", w, Void); c.w != True {
			t.Errorf("eq? of %d: %+v", w, c)
		}
		if c := do(t, s, "list-tail", w, fix(0)); c != (come{Void, "", api.Done}) {
			t.Errorf("list-tail of %d: %+v", w, c)
		}
		if c := do(t, s, "write", w); c != (come{Void, "#<void>", api.Done}) {
			t.Errorf("write of %d: %+v", w, c)
		}
		for _, c := range []struct {
			name string
			args []uint64
			want string
		}{
			{"append", []uint64{pair, w}, "(1 . #<void>)"}, {"cons", []uint64{w, w}, "(#<void> . #<void>)"}, {"list", []uint64{w, fix(1), w}, "(#<void> 1 #<void>)"}, {"vector", []uint64{w, fix(1), w}, "#(#<void> 1 #<void>)"}, {"make-vector", []uint64{fix(2), w}, "#(#<void> #<void>)"},
			{"car", []uint64{w}, `#<condition type "car" #<void>>`}, {"car", []uint64{w, w}, `#<condition arity "car" #<void> #<void>>`}, {"vector-ref", []uint64{w, w}, `#<condition type "vector-ref" #<void> #<void>>`}, {"list-ref", []uint64{w, fix(0)}, `#<condition range "list-ref" #<void> 0>`},
		} {
			if got := written(t, s, do(t, s, c.name, c.args...).w); got != c.want {
				t.Errorf("%s of %d: %s", c.name, w, got)
			}
		}
	}
}

// A pointer to what the call itself lays is none when it is handed in.
func TestNotYetLaid(t *testing.T) {
	for _, p := range doable() {
		for count := 1; count < 4; count++ {
			s := store(t, 2000)
			made(t)(s.Cons(fix(1), Empty))
			void := store(t, 2000)
			made(t)(void.Cons(fix(1), Empty))
			next := uint64(s.Used()) * 4
			a := do(t, s, p.Name, slices.Repeat([]uint64{next}, count)...)
			b := do(t, void, p.Name, slices.Repeat([]uint64{Void}, count)...)
			if a != b {
				t.Errorf("%s: %+v, not %+v", p.Name, a, b)
			}
			wantWords(t, s, void.Words())
		}
	}
}

// R3: arguments, and their spare room, are neither turned nor kept; nor are irritants.
func TestArgumentsStay(t *testing.T) {
	const spare = 0xabadcafe
	for _, p := range listed() {
		for count := range 5 {
			s := store(t, 2000)
			list := made(t)(s.List(fix(1), fix(2)))
			args := slices.Repeat([]uint64{3, list, fix(1), 0, char(65)}, 2)[:count+2]
			args[count], args[count+1] = spare, spare
			was := slices.Clone(args)
			w, _, how := prim.Do(s, prim.Number(p.Name), args[:count]...)
			if !slices.Equal(args, was) {
				t.Fatalf("%s: %v turned into %v", p.Name, was, args)
			}
			words := s.Words()
			clear(args)
			wantWords(t, s, words)
			if how <= api.Wrong && !s.Is(w) && w%4 == 0 {
				t.Fatalf("%s: %d", p.Name, w)
			}
		}
	}
	s := store(t, 2000)
	irritants := []uint64{3, fix(1), 0, spare, spare}
	prim.Condition(s, "user", "m", irritants[:3]...)
	if !slices.Equal(irritants, []uint64{3, fix(1), 0, spare, spare}) {
		t.Fatal(irritants)
	}
}

// R3: what goes out is new memory each time, spare room too.
func TestOutputIsNew(t *testing.T) {
	s := store(t, 2000)
	symbol := made(t)(s.Intern("symbol"))
	text := made(t)(s.Text([]byte("a text of some bytes")))
	for name, args := range map[string][]uint64{"write": {symbol}, "display": {text}, "newline": nil, "write-char": {char(65)}} {
		was := s.Words()
		_, first, _ := prim.Do(s, prim.Number(name), args...)
		want := string(first)
		first = first[:cap(first)]
		for i := range first {
			first[i] = 'x'
		}
		if _, again, _ := prim.Do(s, prim.Number(name), args...); string(again) != want {
			t.Errorf("%s: %q, not %q", name, again, want)
		}
		wantWords(t, s, was)
	}
}

// R3: Prims that are told are the caller's.
func TestPrimsAreNew(t *testing.T) {
	p, _ := prim.Get(38)
	p.Name, p.Least = "x", 7
	if q, _ := prim.Get(38); q.Name != "car" || q.Least != 1 {
		t.Error(q)
	}
}

// R3: no arguments, and an empty list of them, are one.
func TestNoArguments(t *testing.T) {
	for _, p := range listed() {
		a, b := store(t, 100), store(t, 100)
		w, out, how := prim.Do(a, prim.Number(p.Name))
		v, more, also := prim.Do(b, prim.Number(p.Name), []uint64{}...)
		if w != v || string(out) != string(more) || how != also || !slices.Equal(a.Words(), b.Words()) {
			t.Errorf("%s: %d, %d", p.Name, how, also)
		}
	}
}
