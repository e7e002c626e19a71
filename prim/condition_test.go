package prim_test

import (
	"slices"
	"strings"
	"testing"

	"tandem/prim"
)

// P12.2: a text, a list, a symbol, a condition, in this order.
func TestCondition(t *testing.T) {
	s := store(t, 100)
	w, ok := prim.Condition(s, "type", "car", fix(1), fix(2))
	header := func(kind, tagged, raws uint64) uint64 { return 3 | kind<<2 | tagged<<8 | raws<<32 }
	want := []uint64{0,
		header(Text, 0, 2), 3, 'c' | 'a'<<8 | 'r'<<16,
		header(Pair, 2, 0), fix(2), Empty, header(Pair, 2, 0), fix(1), 4 * 4,
		header(Text, 0, 2), 4, 't' | 'y'<<8 | 'p'<<16 | 'e'<<24, header(Symbol, 1, 0), 10 * 4,
		header(Condition, 3, 0), 13 * 4, 1 * 4, 7 * 4}
	if !ok || w != 15*4 || !slices.Equal(s.Words(), want) {
		t.Errorf("%d, %v: %v", w, ok, s.Words())
	}
	wantCondition(t, s, w, "type", "car", fix(1), fix(2))
	if got := written(t, s, w); got != `#<condition type "car" 1 2>` {
		t.Error(got)
	}
}

// The class is the interned symbol; messages and classes are any texts; irritants any number.
func TestConditions(t *testing.T) {
	s := store(t, 20000)
	user := made(t)(s.Intern("user"))
	pair := made(t)(s.Cons(fix(1), Empty))
	for _, class := range []string{"user", "", "a class of more than eight bytes", "\xff\x00"} {
		for _, message := range []string{"", "12345678", "\x00\xff", strings.Repeat("m", 100)} {
			for _, irritants := range [][]uint64{nil, {pair}, {pair, fix(5), user, False}, slices.Repeat([]uint64{pair}, 100)} {
				w, ok := prim.Condition(s, class, message, irritants...)
				if !ok {
					t.Fatal("no room")
				}
				wantCondition(t, s, w, class, message, irritants...)
			}
		}
	}
	if made(t)(s.Intern("user")) != user {
		t.Error("another symbol")
	}
}

// Irritants that are headers, or pointers to no objects, count as Void.
func TestWrongIrritants(t *testing.T) {
	s := store(t, 100)
	pair := made(t)(s.Cons(fix(1), Empty))
	w, ok := prim.Condition(s, "user", "m", 3, 0, pair, pair+4, 1<<40, 7)
	if !ok {
		t.Fatal("refused")
	}
	wantCondition(t, s, w, "user", "m", Void, Void, pair, Void, Void, Void)
	// A pointer to what is only then laid is none yet.
	next := uint64(s.Used()) * 4
	w, _ = prim.Condition(s, "user", "m", next)
	wantCondition(t, s, w, "user", "m", Void)
}

// R2: without room for all of it nothing is laid, whether or not the symbol is there.
func TestConditionRoom(t *testing.T) {
	for _, c := range []struct {
		class, message string
		irritants      []uint64
		need           int // without the symbol
		symbol         int
	}{
		{"type", "car", []uint64{fix(1), fix(2)}, 13, 5},
		{"", "", nil, 6, 4},
		{"a class of some length", "12345678", []uint64{fix(1)}, 10, 7},
	} {
		for _, interned := range []bool{false, true} {
			for free := range c.need + c.symbol + 2 {
				s := store(t, 200)
				made(t)(s.Intern("another"))
				made(t)(s.Text([]byte(c.class)))
				need := c.need + c.symbol
				if interned {
					made(t)(s.Intern(c.class))
					need = c.need
				}
				fill(t, s, free)
				was := s.Words()
				w, ok := prim.Condition(s, c.class, c.message, c.irritants...)
				if ok != (free >= need) {
					t.Errorf("%q with %d, %v: %v", c.class, free, interned, ok)
				}
				if !ok && (w != 0 || !slices.Equal(s.Words(), was)) {
					t.Errorf("%q with %d, %v: something was laid", c.class, free, interned)
				}
				if ok && s.Used() != len(was)+need {
					t.Errorf("%q with %d, %v: used %d", c.class, free, interned, s.Used())
				}
				if ok {
					wantCondition(t, s, w, c.class, c.message, c.irritants...)
				}
			}
		}
	}
}

// A symbol that lies on the heap, but was forgotten by a collection that was not Keep's, is no help: another one is laid.
func TestForgottenClass(t *testing.T) {
	for free := range 20 {
		s := store(t, 200)
		old := s.Collect(made(t)(s.Intern("type")))[0]
		fill(t, s, free)
		w, ok := prim.Condition(s, "type", "car", fix(1), fix(2))
		if ok != (free >= 18) || !ok && w != 0 {
			t.Errorf("with %d: %d, %v", free, w, ok)
		}
		if class, _ := s.Get(w, 0); ok && class == old {
			t.Error("the forgotten symbol")
		}
	}
}
