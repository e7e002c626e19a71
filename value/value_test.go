package value_test

import (
	"math"
	"slices"
	"testing"

	"tandem/api"
	"tandem/heap"
	"tandem/num"
	"tandem/value"
)

// The words of the chapter's table.
const (
	False       = 2
	True        = 6
	Empty       = 10
	Unspecified = 14
	Undefined   = 18
)

// The kinds of the chapter's table.
const (
	Pair      = 1
	Vector    = 2
	Text      = 3
	Symbol    = 4
	Number    = 5
	Closure   = 6
	Box       = 7
	Condition = 9
)

func char(c uint64) uint64 { return c*256 + 22 }

func prim(n uint64) uint64 { return n*256 + 26 }

// fix is a fixnum's word, worked out otherwise than by Fix.
func fix(n int64) uint64 { return uint64(4*n + 1) }

func head(kind, tagged, raws int) uint64 {
	return 3 | uint64(kind)<<2 | uint64(tagged)<<8 | uint64(raws)<<32
}

func store(t *testing.T, words int) *value.Store {
	t.Helper()
	s, errno := value.New(words)
	if s == nil || errno != api.OK {
		t.Fatalf("New(%d): %d", words, errno)
	}
	return s
}

// made is the word of a call that should answer true.
func made(t *testing.T) func(w uint64, ok bool) uint64 {
	return func(w uint64, ok bool) uint64 {
		t.Helper()
		if !ok {
			t.Fatal("refused")
		}
		return w
	}
}

// refused fails, if a call did not answer 0 and false.
func refused(t *testing.T) func(w uint64, ok bool) {
	return func(w uint64, ok bool) {
		t.Helper()
		if ok || w != 0 {
			t.Fatalf("%d, %v; should be refused", w, ok)
		}
	}
}

// laid lays any object.
func laid(t *testing.T, s *value.Store, kind int, tagged, raws []uint64) uint64 {
	t.Helper()
	p := made(t)(s.Alloc(kind, len(tagged), len(raws)))
	for i, w := range tagged {
		if !s.Set(p, i, w) {
			t.Fatalf("Set(%d, %d, %d)", p, i, w)
		}
	}
	for i, w := range raws {
		s.SetRaw(p, i, w)
	}
	return p
}

func wantWords(t *testing.T, s *value.Store, want ...uint64) {
	t.Helper()
	if got := s.Words(); !slices.Equal(got, want) {
		t.Fatalf("the heap is\n%x, should be\n%x", got, want)
	}
}

func big(t *testing.T, text string) api.Num {
	t.Helper()
	n, ok := num.Parse(text)
	if !ok {
		t.Fatal(text)
	}
	return n
}

// limbs is a number of that many limbs, the highest one 1.
func limbs(n int) api.Num { return api.Num{Mag: append(make([]uint32, n-1), 1)} }

func TestNew(t *testing.T) {
	for _, words := range []int{math.MinInt, -1, 0, 1, api.MaxWords + 1, math.MaxInt} {
		if s, errno := value.New(words); s != nil || errno != api.ErrArg {
			t.Errorf("New(%d): %v, %d", words, s, errno)
		}
	}
	for _, words := range []int{2, 3, 1000, api.MaxWords} {
		s := store(t, words)
		if s.Size() != words || s.Used() != 1 || s.Times() != 0 {
			t.Errorf("New(%d): %d %d %d", words, s.Size(), s.Used(), s.Times())
		}
		wantWords(t, s, 0)
	}
}

// A store's heap is a heap, whose methods are the store's own.
func TestHeapOfStore(t *testing.T) {
	s := store(t, 100)
	var h *heap.Heap = s.Heap
	p := made(t)(s.Alloc(63, 1, 1))
	if !h.Is(p) || !s.Set(p, 0, p) || !s.SetRaw(p, 0, 7) || h.Used() != 4 || s.Kind(p) != 63 {
		t.Fatal("not one heap")
	}
	s.Text([]byte("gone"))
	if roots := s.Collect(p); len(roots) != 1 || roots[0] != 4 || h.Times() != 1 || s.Times() != 1 {
		t.Fatal("Collect")
	}
	wantWords(t, s, 0, head(63, 1, 1), 4, 7)
}

func TestFix(t *testing.T) {
	for _, n := range []int64{0, 1, -1, 2, -2, 1000, -1000, 1<<61 - 1, -1 << 61, 1<<61 - 2, -1<<61 + 1, 1 << 60} {
		w, ok := value.Fix(n)
		if !ok || w != fix(n) {
			t.Errorf("Fix(%d): %d, %v", n, w, ok)
		}
		if back, ok := value.Int(w); !ok || back != n {
			t.Errorf("Int(%d): %d, %v", w, back, ok)
		}
	}
	for _, n := range []int64{1 << 61, -1<<61 - 1, 1 << 62, -1 << 62, math.MaxInt64, math.MinInt64} {
		refused(t)(value.Fix(n))
	}
	if w, _ := value.Fix(-1); w != 1<<64-3 {
		t.Error("the chapter's example")
	}
}

func TestInt(t *testing.T) {
	for _, w := range []uint64{0, 2, 3, 4, 6, 10, 1<<64 - 1, 1<<64 - 2, 1<<64 - 4, char(1), prim(1), head(1, 2, 0)} {
		if n, ok := value.Int(w); ok || n != 0 {
			t.Errorf("Int(%d): %d, %v", w, n, ok)
		}
	}
	for w, want := range map[uint64]int64{1: 0, 5: 1, 1<<64 - 3: -1, 1<<63 + 1: -1 << 61, 1<<63 - 3: 1<<61 - 1} {
		if n, ok := value.Int(w); !ok || n != want {
			t.Errorf("Int(%d): %d, %v", w, n, ok)
		}
	}
}

func TestCons(t *testing.T) {
	s := store(t, 100)
	p := made(t)(s.Cons(5, Empty))
	q := made(t)(s.Cons(p, p))
	if p != 4 || q != 16 {
		t.Fatalf("%d %d", p, q)
	}
	wantWords(t, s, 0, head(Pair, 2, 0), 5, Empty, head(Pair, 2, 0), 4, 4)
}

func TestList(t *testing.T) {
	s := store(t, 100)
	if w := made(t)(s.List()); w != Empty {
		t.Fatalf("of none: %d", w)
	}
	wantWords(t, s, 0)
	l := made(t)(s.List(5, 9, 13))
	if l != 28 {
		t.Fatalf("%d", l)
	}
	cell := head(Pair, 2, 0)
	wantWords(t, s, 0, cell, 13, Empty, cell, 9, 4, cell, 5, 16)
}

func TestVector(t *testing.T) {
	s := store(t, 100)
	made(t)(s.Vector())
	v := made(t)(s.Vector(5, 4, True))
	if v != 8 {
		t.Fatalf("%d", v)
	}
	wantWords(t, s, 0, head(Vector, 0, 0), head(Vector, 3, 0), 5, 4, True)
}

func TestText(t *testing.T) {
	const letters = "abcdefghijklmnopqrstuvwxyz"
	for n, raws := range [][]uint64{
		0:  {0},
		1:  {1, 0x61},
		7:  {7, 0x67666564636261},
		8:  {8, 0x6867666564636261},
		9:  {9, 0x6867666564636261, 0x69},
		16: {16, 0x6867666564636261, 0x706f6e6d6c6b6a69},
		17: {17, 0x6867666564636261, 0x706f6e6d6c6b6a69, 0x71},
	} {
		if raws == nil {
			continue
		}
		s := store(t, 100)
		p := made(t)(s.Text([]byte(letters[:n])))
		if p != 4 {
			t.Fatalf("%d", p)
		}
		wantWords(t, s, append([]uint64{0, head(Text, 0, len(raws))}, raws...)...)
		if b, ok := s.Bytes(p); !ok || string(b) != letters[:n] {
			t.Fatalf("%q, %v", b, ok)
		}
	}
}

// Texts are bytes, whatever they say: zeros at the end count.
func TestBytesOfAnyText(t *testing.T) {
	s := store(t, api.MaxWords)
	d := dice(1)
	for n := range 200 {
		b := make([]byte, n)
		for i := range b {
			b[i] = byte(d.below(3)) * 127
		}
		if got, ok := s.Bytes(made(t)(s.Text(b))); !ok || !slices.Equal(got, b) {
			t.Fatalf("%d: %q, %v; should be %q", n, got, ok, b)
		}
	}
	long := slices.Repeat([]byte{0xff, 0, 1}, 2<<20)
	if got, ok := s.Bytes(made(t)(s.Text(long))); !ok || !slices.Equal(got, long) {
		t.Fatal("a text far beyond MaxText")
	}
}

func TestNumber(t *testing.T) {
	for text, raws := range map[string][]uint64{
		"2305843009213693952":                     {0, 1 << 61},
		"-2305843009213693953":                    {1, 1<<61 + 1},
		"18446744073709551615":                    {0, 1<<64 - 1},
		"18446744073709551616":                    {0, 0, 1},
		"-36893488147419103233":                   {1, 1, 2},
		"4722366482869645213695":                  {0, 1<<64 - 1, 255},
		"340282366920938463463374607431768211455": {0, 1<<64 - 1, 1<<64 - 1},
	} {
		s := store(t, 100)
		w := made(t)(s.Number(big(t, text)))
		if w != 4 {
			t.Fatalf("%s: %d", text, w)
		}
		wantWords(t, s, append([]uint64{0, head(Number, 0, len(raws))}, raws...)...)
		if n, ok := s.Num(w); !ok || num.Text(n) != text || !slices.Equal(n.Mag, big(t, text).Mag) {
			t.Errorf("%s: %v, %v", text, n, ok)
		}
	}
}

func TestNumberThatIsFixnum(t *testing.T) {
	s := store(t, 2)
	for _, v := range []int64{0, 1, -1, 1<<32 - 1, -1 << 32, 1<<61 - 1, -1 << 61} {
		w := made(t)(s.Number(num.Of(v)))
		if w != fix(v) {
			t.Errorf("%d: %d", v, w)
		}
		if n, ok := s.Num(w); !ok || num.Cmp(n, num.Of(v)) != 0 || n.Neg != (v < 0) {
			t.Errorf("%d: %v, %v", v, n, ok)
		}
	}
	wantWords(t, s, 0)
}

// A number is what its limbs come to, also with limbs 0 at their end, and 0 with a sign.
func TestNumberNotCanonical(t *testing.T) {
	s := store(t, 100)
	if w := made(t)(s.Number(api.Num{Neg: true, Mag: make([]uint32, 3)})); w != 1 {
		t.Fatalf("-0: %d", w)
	}
	if w := made(t)(s.Number(api.Num{Neg: true, Mag: append([]uint32{7}, make([]uint32, 400)...)})); w != fix(-7) {
		t.Fatalf("-7: %d", w)
	}
	wantWords(t, s, 0)
	made(t)(s.Number(api.Num{Mag: append([]uint32{1, 2, 3}, make([]uint32, 400)...)}))
	wantWords(t, s, 0, head(Number, 0, 3), 0, 2<<32|1, 3)
}

func TestLongNumber(t *testing.T) {
	s := store(t, 1000)
	refused(t)(s.Number(limbs(api.MaxLimbs + 1)))
	refused(t)(s.Number(limbs(1 << 16)))
	wantWords(t, s, 0)
	n := limbs(api.MaxLimbs)
	got, ok := s.Num(made(t)(s.Number(n)))
	if !ok || !slices.Equal(got.Mag, n.Mag) || s.Used() != 1+2+api.MaxLimbs/2 {
		t.Fatal("MaxLimbs limbs")
	}
}

// A word that Set would not take is refused, and nothing is laid.
func TestWrongWords(t *testing.T) {
	s := store(t, 100)
	made(t)(s.Cons(5, 9))
	gone := made(t)(s.Cons(5, 9))
	s.Collect(4)
	was := s.Words()
	next := uint64(s.Used()) * 4
	for _, w := range []uint64{0, 3, 8, 12, gone, next, next + 12, 4 * 100, 1 << 62, 1<<64 - 4, 1<<64 - 1, head(Pair, 2, 0)} {
		for _, call := range []func() (uint64, bool){
			func() (uint64, bool) { return s.Cons(w, 5) },
			func() (uint64, bool) { return s.Cons(5, w) },
			func() (uint64, bool) { return s.List(w) },
			func() (uint64, bool) { return s.List(5, w, 4) },
			func() (uint64, bool) { return s.List(4, 5, w) },
			func() (uint64, bool) { return s.Vector(w) },
			func() (uint64, bool) { return s.Vector(5, w, 4) },
			func() (uint64, bool) { return s.Vector(4, 5, w) },
		} {
			refused(t)(call())
		}
		wantWords(t, s, was...)
	}
	for _, w := range []uint64{1, 2, 4, 1<<64 - 2, 1<<64 - 3, Undefined, prim(7)} {
		made(t)(s.Cons(w, w))
		made(t)(s.List(w, w))
		made(t)(s.Vector(w, w))
	}
}

// filled is a store in which so many words are laid, and so many may still be.
func filled(t *testing.T, laid, room int) *value.Store {
	t.Helper()
	s := store(t, 1+laid+room)
	if laid > 0 {
		made(t)(s.Alloc(60, 0, laid-1))
	}
	return s
}

// Each maker lays all or nothing.
func TestRoom(t *testing.T) {
	for i, c := range []struct {
		words int
		call  func(s *value.Store) (uint64, bool)
	}{
		{3, func(s *value.Store) (uint64, bool) { return s.Cons(5, 9) }},
		{3, func(s *value.Store) (uint64, bool) { return s.List(5) }},
		{9, func(s *value.Store) (uint64, bool) { return s.List(5, 9, 13) }},
		{1, func(s *value.Store) (uint64, bool) { return s.Vector() }},
		{4, func(s *value.Store) (uint64, bool) { return s.Vector(5, 9, 13) }},
		{2, func(s *value.Store) (uint64, bool) { return s.Text(nil) }},
		{3, func(s *value.Store) (uint64, bool) { return s.Text(make([]byte, 8)) }},
		{4, func(s *value.Store) (uint64, bool) { return s.Text(make([]byte, 9)) }},
		{3, func(s *value.Store) (uint64, bool) { return s.Number(api.Num{Mag: []uint32{0, 1 << 29}}) }},
		{4, func(s *value.Store) (uint64, bool) { return s.Number(limbs(3)) }},
		{4, func(s *value.Store) (uint64, bool) { return s.Intern("") }},
		{5, func(s *value.Store) (uint64, bool) { return s.Intern("a") }},
		{5, func(s *value.Store) (uint64, bool) { return s.Intern("abcdefgh") }},
		{6, func(s *value.Store) (uint64, bool) { return s.Intern("abcdefghi") }},
	} {
		for _, ahead := range []int{1, 2, 7} {
			for room := range c.words {
				s := filled(t, ahead, room)
				was := s.Words()
				refused(t)(c.call(s))
				wantWords(t, s, was...)
			}
			s := filled(t, ahead, c.words)
			if w := made(t)(c.call(s)); !s.Is(w) || s.Used() != s.Size() {
				t.Errorf("%d: %d, used %d of %d", i, w, s.Used(), s.Size())
			}
		}
	}
}

// What is far too great is refused too.
func TestNoRoomAtAll(t *testing.T) {
	s := store(t, 2)
	refused(t)(s.Vector(slices.Repeat([]uint64{5}, api.MaxWords+5)...))
	refused(t)(s.List(slices.Repeat([]uint64{5}, api.MaxWords+5)...))
	refused(t)(s.Text(make([]byte, 8*api.MaxWords+100)))
	refused(t)(s.Intern(string(make([]byte, 8*api.MaxWords+100))))
	wantWords(t, s, 0)
}
