package value_test

import (
	"slices"
	"strconv"
	"testing"

	"tandem/api"
	"tandem/value"
)

// A symbol is one tagged field, its text, which is laid ahead of it.
func TestIntern(t *testing.T) {
	s := store(t, 100)
	a := made(t)(s.Intern("a"))
	b := made(t)(s.Intern(""))
	if a != 16 || b != 32 {
		t.Fatalf("%d %d", a, b)
	}
	words := []uint64{0, head(Text, 0, 2), 1, 'a', head(Symbol, 1, 0), 4, head(Text, 0, 1), 0, head(Symbol, 1, 0), 24}
	wantWords(t, s, words...)
	if made(t)(s.Intern("a")) != a || made(t)(s.Intern("")) != b {
		t.Fatal("not one word")
	}
	wantWords(t, s, words...)
}

// Names are bytes, whatever they say.
func TestNames(t *testing.T) {
	s := store(t, 1000)
	seen := map[uint64]string{}
	for _, name := range []string{"", "a", "A", "a\x00", "\x00", "\x00\x00", "abcdefgh", "abcdefghi", "\xff\xfe", "é", "lambda", "a b", "1"} {
		w := made(t)(s.Intern(name))
		if other, ok := seen[w]; ok {
			t.Fatalf("%q and %q are one", name, other)
		}
		seen[w] = name
	}
	for w, name := range seen {
		if got, ok := s.Name(w); !ok || got != name || made(t)(s.Intern(name)) != w {
			t.Errorf("%q: %q, %v", name, got, ok)
		}
	}
}

// What was interned is answered where there is no more room too; what was refused is laid when there is room.
func TestInternWithoutRoom(t *testing.T) {
	s := store(t, 1+5+4)
	a := made(t)(s.Intern("a"))
	refused(t)(s.Intern("b"))
	if made(t)(s.Intern("a")) != a {
		t.Fatal("a")
	}
	s.Collect()
	if b := made(t)(s.Intern("b")); b != 16 {
		t.Fatalf("b: %d", b)
	}
	refused(t)(s.Intern("a"))
}

// Texts and symbols that were laid otherwise are not what Intern tells of.
func TestInternIsItsOwn(t *testing.T) {
	s := store(t, 100)
	text := made(t)(s.Text([]byte("a")))
	other := laid(t, s, Symbol, []uint64{text}, nil)
	a := made(t)(s.Intern("a"))
	if a == other || s.Used() != 1+3+2+3+2 {
		t.Fatalf("%d %d", a, other)
	}
	if s.Eqv(a, other) {
		t.Fatal("two symbols are eqv")
	}
	// One object always, whatever it was made into.
	s.Set(a, 0, fix(7))
	if made(t)(s.Intern("a")) != a {
		t.Fatal("another object")
	}
}

func TestKeep(t *testing.T) {
	s := store(t, 200)
	s.Text([]byte("garbage"))
	made(t)(s.Intern("b"))
	s.Text([]byte("garbage"))
	a := made(t)(s.Intern("a"))
	p := made(t)(s.Cons(a, fix(1)))
	roots := s.Keep(p, fix(2), Empty, p, 3)
	// The pair, then the symbols in the order of their making; then what is met: a is the pair's field, and stands behind b.
	if want := []uint64{4, fix(2), Empty, 4, 3}; !slices.Equal(roots, want) {
		t.Fatalf("%v", roots)
	}
	sym, txt := head(Symbol, 1, 0), head(Text, 0, 2)
	wantWords(t, s, 0, head(Pair, 2, 0), 24, fix(1), sym, 32, sym, 44, txt, 1, 'b', txt, 1, 'a')
	if made(t)(s.Intern("b")) != 16 || made(t)(s.Intern("a")) != 24 || s.Times() != 1 {
		t.Fatal("symbols")
	}
	// Nothing was laid, and they stay for ever, also without roots.
	if roots := s.Keep(); len(roots) != 0 || s.Used() != 1+2*2+2*3 || s.Times() != 2 {
		t.Fatalf("%v, used %d", roots, s.Used())
	}
	if made(t)(s.Intern("b")) != 4 || made(t)(s.Intern("a")) != 12 {
		t.Fatal("symbols")
	}
	made(t)(s.Intern("c"))
	for range 5 {
		s.Keep()
	}
	wantWords(t, s, 0, sym, 28, sym, 40, sym, 52, txt, 1, 'b', txt, 1, 'a', txt, 1, 'c')
}

// A root that is a symbol stands where roots do; its place in the making stays.
func TestKeepOfSymbol(t *testing.T) {
	s := store(t, 200)
	made(t)(s.Intern("a"))
	b := made(t)(s.Intern("b"))
	if roots := s.Keep(b); roots[0] != 4 || made(t)(s.Intern("b")) != 4 || made(t)(s.Intern("a")) != 12 {
		t.Fatalf("%v", roots)
	}
	s.Keep()
	if made(t)(s.Intern("a")) != 4 || made(t)(s.Intern("b")) != 12 {
		t.Fatal("the order")
	}
}

// A Collect that is not Keep's forgets all symbols, those that are roots too.
func TestForgotten(t *testing.T) {
	for _, collect := range []func(s *value.Store, roots ...uint64) []uint64{
		func(s *value.Store, roots ...uint64) []uint64 { return s.Collect(roots...) },
		func(s *value.Store, roots ...uint64) []uint64 { return s.Heap.Collect(roots...) },
	} {
		s := store(t, 200)
		made(t)(s.Intern("a"))
		s.Keep()
		made(t)(s.Intern("b"))
		a := collect(s, made(t)(s.Intern("a")))[0]
		if name, ok := s.Name(a); !ok || name != "a" {
			t.Fatalf("%q, %v", name, ok)
		}
		if again := made(t)(s.Intern("a")); again == a || s.Used() != 1+5+5 {
			t.Fatalf("%d %d, used %d", a, again, s.Used())
		}
		s.Keep()
		if s.Used() != 1+5 {
			t.Fatalf("used %d", s.Used())
		}
	}
}

// What was interned ahead of a Collect is no root of a Keep, though its old word may point to an object.
func TestForgottenAtKeep(t *testing.T) {
	s := store(t, 200)
	a := made(t)(s.Intern("a"))
	s.Collect()
	for !s.Is(a) {
		made(t)(s.Vector())
	}
	s.Keep()
	wantWords(t, s, 0)
	s.Collect()
	s.Collect()
	s.Keep()
	wantWords(t, s, 0)
}

// Two stores have no symbols in common.
func TestStoresApart(t *testing.T) {
	s, r := store(t, 100), store(t, 100)
	made(t)(s.Intern("a"))
	b := made(t)(r.Intern("b"))
	if name, _ := r.Name(b); name != "b" || b != 16 {
		t.Fatal("one table")
	}
	if made(t)(s.Intern("b")) == b {
		t.Fatal("one table")
	}
}

// Long rows of calls, against a list of names.
func TestSymbolsAgainstNames(t *testing.T) {
	for seed := range 30 {
		d := dice(seed + 1)
		s := store(t, 300)
		var names []string
		var words []uint64
		for range 300 {
			switch d.below(12) {
			case 0:
				s.Collect(words...)
				names, words = nil, nil
			case 1, 2:
				s.Text([]byte("garbage"))
				s.Keep(fix(1))
				for i, name := range names {
					words[i] = made(t)(s.Intern(name))
				}
			default:
				name := strconv.Itoa(d.below(40))
				used := s.Used()
				w, ok := s.Intern(name)
				i := slices.Index(names, name)
				switch {
				case i >= 0 && (!ok || w != words[i] || s.Used() != used):
					t.Fatalf("%s: %d, %v; should be %d", name, w, ok, words[i])
				case i < 0 && ok != (s.Size()-used >= 5):
					t.Fatalf("%s: %v with %d words left", name, ok, s.Size()-used)
				case i < 0 && ok:
					names, words = append(names, name), append(words, w)
				}
			}
			wantNames(t, s, names, words)
		}
	}
}

func wantNames(t *testing.T, s *value.Store, names []string, words []uint64) {
	t.Helper()
	for i, w := range words {
		if name, ok := s.Name(w); !ok || name != names[i] {
			t.Fatalf("%d: %q, %v; should be %q", w, name, ok, names[i])
		}
		if got, ok := s.Take(w, 1); !ok || got.Kind != api.Symbol || got.Text != names[i] {
			t.Fatalf("%d: %v", w, got)
		}
	}
}
