package prim_test

import (
	"testing"

	"tandem/api"
	"tandem/value"
)

// ring lays a chain of so many pairs ahead of a round of so many, with the items 0, 1, ..; its pairs.
func ring(t *testing.T, s *value.Store, ahead, round int) []uint64 {
	t.Helper()
	pairs := make([]uint64, ahead+round)
	for i := range pairs {
		pairs[i] = made(t)(s.Cons(fix(i), Empty))
	}
	for i := range pairs {
		next := i + 1
		if next == len(pairs) {
			next = ahead
		}
		s.Set(pairs[i], 1, pairs[next])
	}
	return pairs
}

// P12.3: calls with chains that go round end, and say what the chapter asks.
func TestRounds(t *testing.T) {
	for ahead := range 10 {
		for round := 1; round < 10; round++ {
			s := store(t, 20000)
			pairs := ring(t, s, ahead, round)
			w := pairs[0]
			if c := do(t, s, "list?", w); c != (come{False, "", api.Done}) {
				t.Fatalf("list? %d, %d: %+v", ahead, round, c)
			}
			for _, name := range []string{"length", "reverse", "list->vector", "list->string"} {
				wantWrong(t, s, "type", name, w)
			}
			wantWrong(t, s, "type", "append", w, Empty)
			wantWrong(t, s, "type", "append", Empty, w, fix(1))
			if c := do(t, s, "append", Empty, w); c != (come{w, "", api.Done}) {
				t.Errorf("append: %+v", c)
			}
			wantSearch(t, s, pairs)
			wantTails(t, s, pairs, ahead, round)
		}
	}
}

// wantSearch wants that what is on a chain that goes round is found, and that what is not is type.
func wantSearch(t *testing.T, s *value.Store, pairs []uint64) {
	t.Helper()
	for _, name := range []string{"memq", "memv", "member"} {
		for i, p := range pairs {
			if c := do(t, s, name, fix(i), pairs[0]); c != (come{p, "", api.Done}) {
				t.Errorf("%s %d: %+v", name, i, c)
			}
		}
		wantWrong(t, s, "type", name, fix(len(pairs)), pairs[0])
	}
	items := make([]uint64, len(pairs))
	for i, p := range pairs {
		items[i] = made(t)(s.Cons(fix(i), Empty))
		s.Set(p, 0, items[i])
	}
	for _, name := range []string{"assq", "assv", "assoc"} {
		for i, item := range items {
			if c := do(t, s, name, fix(i), pairs[0]); c != (come{item, "", api.Done}) {
				t.Errorf("%s %d: %+v", name, i, c)
			}
		}
		wantWrong(t, s, "type", name, fix(len(pairs)), pairs[0])
	}
	for i, p := range pairs {
		s.Set(p, 0, fix(i))
	}
}

// wantTails wants what stands at any place of a chain that goes round.
func wantTails(t *testing.T, s *value.Store, pairs []uint64, ahead, round int) {
	t.Helper()
	for _, from := range []int{0, 1000, 1<<32 - 7, 1<<61 - 50} {
		for n := from; n < from+50; n++ {
			at := n
			if n >= ahead {
				at = ahead + (n-ahead)%round
			}
			if c := do(t, s, "list-tail", pairs[0], fix(n)); c != (come{pairs[at], "", api.Done}) {
				t.Fatalf("list-tail %d, %d, %d: %+v", ahead, round, n, c)
			}
			if c := do(t, s, "list-ref", pairs[0], fix(n)); c != (come{fix(at), "", api.Done}) {
				t.Fatalf("list-ref %d, %d, %d: %+v", ahead, round, n, c)
			}
		}
	}
}

// Chains of all lengths that do not go round are gone through to their ends, though one pair be in another.
func TestChains(t *testing.T) {
	s := store(t, 20000)
	for n := range 70 {
		items := make([]uint64, n)
		for i := range items {
			items[i] = fix(i)
		}
		w := made(t)(s.List(items...))
		if c := do(t, s, "length", w); c != (come{fix(n), "", api.Done}) {
			t.Errorf("length %d: %+v", n, c)
		}
		if c := do(t, s, "list?", w); c.w != True {
			t.Errorf("list? %d: %+v", n, c)
		}
		if c := do(t, s, "memq", fix(n), w); c != (come{False, "", api.Done}) {
			t.Errorf("memq %d: %+v", n, c)
		}
		if c := do(t, s, "list-tail", w, fix(n)); c != (come{Empty, "", api.Done}) {
			t.Errorf("list-tail %d: %+v", n, c)
		}
		wantWrong(t, s, "range", "list-tail", w, fix(n+1))
		wantWrong(t, s, "range", "list-ref", w, fix(n))
	}
	// Cars that go round are no chain.
	p := made(t)(s.Cons(Empty, Empty))
	s.Set(p, 0, p)
	if c := do(t, s, "length", p); c.w != fix(1) {
		t.Errorf("%+v", c)
	}
}

// A great round is soon known.
func TestGreatRound(t *testing.T) {
	s := store(t, api.MaxWords)
	pairs := ring(t, s, 100000, 200001)
	for _, name := range []string{"length", "reverse"} {
		wantWrong(t, s, "type", name, pairs[0])
	}
	n := 1<<61 - 1
	if c := do(t, s, "list-tail", pairs[0], fix(n)); c.w != pairs[100000+(n-100000)%200001] {
		t.Errorf("%+v", c)
	}
	wantWrong(t, s, "type", "member", fix(-1), pairs[0])
}
