package prim_test

import (
	"testing"

	"tandem/api"
	"tandem/prim"
	"tandem/read"
	"tandem/show"
	"tandem/value"
)

// Words that stand for one value each.
const (
	False     = 2
	True      = 6
	Empty     = 10
	Void      = 14
	Undefined = 18
)

// Kinds of objects.
const (
	Pair         = 1
	Vector       = 2
	Text         = 3
	Symbol       = 4
	Number       = 5
	Closure      = 6
	Box          = 7
	Continuation = 8
	Condition    = 9
)

func fix(n int) uint64 { return uint64(n)<<2 | 1 }

func char(c int) uint64 { return uint64(c)<<8 | 22 }

func primitive(n int) uint64 { return uint64(n)<<8 | 26 }

func store(t *testing.T, words int) *value.Store {
	t.Helper()
	s, e := value.New(words)
	if e != api.OK {
		t.Fatal(e)
	}
	return s
}

// made is a word that was laid.
func made(t *testing.T) func(w uint64, ok bool) uint64 {
	return func(w uint64, ok bool) uint64 {
		t.Helper()
		if !ok {
			t.Fatal("no room")
		}
		return w
	}
}

// object lays an object of these fields.
func object(t *testing.T, s *value.Store, kind int, tagged, raws []uint64) uint64 {
	t.Helper()
	p := made(t)(s.Alloc(kind, len(tagged), len(raws)))
	for i, w := range tagged {
		if !s.Set(p, i, w) {
			t.Fatal(w)
		}
	}
	for i, w := range raws {
		s.SetRaw(p, i, w)
	}
	return p
}

func datum(t *testing.T, text string) api.Datum {
	t.Helper()
	d, _, e := read.One(text, 0)
	if e != api.OK {
		t.Fatalf("%s: error %d", text, e)
	}
	return d
}

// put lays the datum of a text.
func put(t *testing.T, s *value.Store, text string) uint64 {
	t.Helper()
	return made(t)(s.Put(datum(t, text)))
}

// written is a value as it is written.
func written(t *testing.T, s *value.Store, w uint64) string {
	t.Helper()
	d, ok := s.Take(w, api.MaxSteps)
	if !ok {
		t.Fatalf("%d is too much", w)
	}
	return show.Write(d)
}

// come is what a call came to.
type come struct {
	w   uint64
	out string
	how int
}

// do does the primitive of that name, and wants that what it comes to is such as the rules allow.
func do(t *testing.T, s *value.Store, name string, args ...uint64) come {
	t.Helper()
	w, out, how := prim.Do(s, prim.Number(name), args...)
	if how < api.Done || how > api.Jump || how > api.Wrong && w != 0 || how != api.Done && len(out) > 0 {
		t.Fatalf("%s %v: %d, %q, %d", name, args, w, out, how)
	}
	return come{w, string(out), how}
}

// words are those of the arguments of a call that is written like (car (1 2)), whose arguments are data.
func words(t *testing.T, s *value.Store, text string) (string, []uint64) {
	t.Helper()
	d := datum(t, text)
	var args []uint64
	for _, x := range d.Items[1:] {
		args = append(args, made(t)(s.Put(x)))
	}
	return d.Items[0].Text, args
}

// call does a call that is written so.
func call(t *testing.T, s *value.Store, text string) come {
	t.Helper()
	name, args := words(t, s, text)
	return do(t, s, name, args...)
}

// wantDone wants that a call is done, and what its answer is as it is written.
func wantDone(t *testing.T, text, want string) {
	t.Helper()
	s := store(t, 10000)
	if c := call(t, s, text); c.how != api.Done || c.out != "" || written(t, s, c.w) != want {
		t.Errorf("%s: %+v, not %s", text, c, want)
	}
}

// wantWrong wants that a call comes to a condition of that class, with the name and all arguments.
func wantWrong(t *testing.T, s *value.Store, class, name string, args ...uint64) {
	t.Helper()
	c := do(t, s, name, args...)
	if c.how != api.Wrong {
		t.Errorf("%s %v: %+v, not %s", name, args, c, class)
		return
	}
	wantCondition(t, s, c.w, class, name, args...)
}

// wantCondition wants a condition of that class, message and irritants.
func wantCondition(t *testing.T, s *value.Store, w uint64, class, message string, irritants ...uint64) {
	t.Helper()
	if s.Kind(w) != Condition || s.Tagged(w) != 3 || s.Raws(w) != 0 {
		t.Fatalf("%s: %d is no condition", message, w)
	}
	symbol, _ := s.Get(w, 0)
	text, _ := s.Get(w, 1)
	list, _ := s.Get(w, 2)
	if symbol != made(t)(s.Intern(class)) {
		name, _ := s.Name(symbol)
		t.Errorf("%s %v: class %s, not %s", message, irritants, name, class)
	}
	if b, ok := s.Bytes(text); !ok || string(b) != message {
		t.Errorf("%s: message %q", message, b)
	}
	for _, want := range irritants {
		got, _ := s.Get(list, 0)
		if s.Kind(list) != Pair || got != want {
			t.Fatalf("%s %v: an irritant %d, not %d", message, irritants, got, want)
		}
		list, _ = s.Get(list, 1)
	}
	if list != Empty {
		t.Errorf("%s %v: more irritants", message, irritants)
	}
}
