package value_test

import (
	"testing"

	"tandem/api"
	"tandem/num"
	"tandem/value"
)

// wantTold fails, if Bytes, Num or Name tell anything of a word but what they are said to.
func wantTold(t *testing.T, s *value.Store, w uint64, bytes, number, name bool) {
	t.Helper()
	if b, ok := s.Bytes(w); ok != bytes || !ok && b != nil {
		t.Errorf("Bytes: %q, %v", b, ok)
	}
	if n, ok := s.Num(w); ok != number || !ok && (n.Neg || n.Mag != nil) {
		t.Errorf("Num: %v, %v", n, ok)
	}
	if text, ok := s.Name(w); ok != name || !ok && text != "" {
		t.Errorf("Name: %q, %v", text, ok)
	}
}

func TestTellers(t *testing.T) {
	s := store(t, 1000)
	text := made(t)(s.Text([]byte("a text")))
	number := made(t)(s.Number(limbs(5)))
	symbol := made(t)(s.Intern("a name"))
	wantTold(t, s, text, true, false, false)
	wantTold(t, s, number, false, true, false)
	wantTold(t, s, symbol, false, false, true)
	wantTold(t, s, fix(-3), false, true, false)
	for _, w := range []uint64{
		0, 3, False, True, Empty, Unspecified, Undefined, char(65), prim(3), text + 4, 1 << 40, 1<<64 - 4, 1<<64 - 1,
		made(t)(s.Cons(text, number)), made(t)(s.Vector(symbol)), laid(t, s, Closure, nil, []uint64{1}),
		laid(t, s, Box, []uint64{symbol}, nil), laid(t, s, Condition, []uint64{symbol, text, Empty}, nil),
	} {
		wantTold(t, s, w, false, false, false)
	}
}

// An object counts as a text only with just the fields that its length wants, and 0 behind its last byte.
func TestNoText(t *testing.T) {
	const full = 0x4141414141414141
	s := store(t, 1000)
	for _, c := range []struct {
		kind   int
		tagged []uint64
		raws   []uint64
		ok     bool
	}{
		{Text, nil, []uint64{0}, true},
		{Text, nil, []uint64{1, 0x41}, true},
		{Text, nil, []uint64{1, 0}, true},
		{Text, nil, []uint64{7, full >> 8}, true},
		{Text, nil, []uint64{8, full}, true},
		{Text, nil, []uint64{9, full, 0x41}, true},
		{Text, nil, nil, false},
		{Text, nil, []uint64{1}, false},
		{Text, nil, []uint64{0, 0}, false},
		{Text, nil, []uint64{0, 0x41}, false},
		{Text, nil, []uint64{1, 0x141}, false},
		{Text, nil, []uint64{1, 1 << 63}, false},
		{Text, nil, []uint64{7, full}, false},
		{Text, nil, []uint64{7, 1 << 56}, false},
		{Text, nil, []uint64{8, full, 0}, false},
		{Text, nil, []uint64{9, full}, false},
		{Text, nil, []uint64{16, full}, false},
		{Text, nil, []uint64{9, full, 0x4141}, false},
		{Text, nil, []uint64{9, full, 0x41, 0}, false},
		{Text, nil, []uint64{1 << 63, 0x41}, false},
		{Text, nil, []uint64{1<<64 - 1, 0x41}, false},
		{Text, nil, []uint64{1<<64 - 7, 0x41}, false},
		{Text, nil, []uint64{1<<32 + 1, 0x41}, false},
		{Text, nil, []uint64{1<<63 - 1}, false},
		{Text, nil, []uint64{1<<64 - 1}, false},
		{Text, nil, []uint64{1<<64 - 8}, false},
		{Text, []uint64{False}, []uint64{1, 0x41}, false},
		{Text, []uint64{False}, []uint64{0}, false},
		{Text, []uint64{fix(0)}, nil, false},
		{Vector, nil, []uint64{1, 0x41}, false},
		{8, nil, []uint64{1, 0x41}, false},
	} {
		w := laid(t, s, c.kind, c.tagged, c.raws)
		wantTold(t, s, w, c.ok, false, false)
		// A symbol's name is a text.
		symbol := laid(t, s, Symbol, []uint64{w}, nil)
		wantTold(t, s, symbol, false, false, c.ok)
	}
}

// An object counts as a number only with its first raw word 0 or 1, canonical limbs, and no fixnum's value.
func TestNoNumber(t *testing.T) {
	s := store(t, 1000)
	for _, c := range []struct {
		kind   int
		tagged []uint64
		raws   []uint64
		text   string
	}{
		{Number, nil, []uint64{0, 1 << 61}, "2305843009213693952"},
		{Number, nil, []uint64{1, 1<<61 + 1}, "-2305843009213693953"},
		{Number, nil, []uint64{1, 1<<64 - 1}, "-18446744073709551615"},
		{Number, nil, []uint64{0, 0, 1}, "18446744073709551616"},
		{Number, nil, []uint64{1, 0, 1 << 32}, "-79228162514264337593543950336"},
		{Number, nil, nil, ""},
		{Number, nil, []uint64{0}, ""},
		{Number, nil, []uint64{1}, ""},
		{Number, nil, []uint64{0, 0}, ""},
		{Number, nil, []uint64{0, 1}, ""},
		{Number, nil, []uint64{1, 1}, ""},
		{Number, nil, []uint64{0, 1<<61 - 1}, ""},
		{Number, nil, []uint64{1, 1<<61 - 1}, ""},
		{Number, nil, []uint64{1, 1 << 61}, ""},
		{Number, nil, []uint64{2, 1 << 62}, ""},
		{Number, nil, []uint64{1<<64 - 1, 1 << 62}, ""},
		{Number, nil, []uint64{1 << 32, 1 << 62}, ""},
		{Number, nil, []uint64{0, 1 << 62, 0}, ""},
		{Number, nil, []uint64{1, 0, 1, 0}, ""},
		{Number, nil, []uint64{3, 0, 1}, ""},
		{Number, []uint64{False}, []uint64{0, 1 << 62}, ""},
		{Number, []uint64{fix(0), fix(9)}, nil, ""},
		{Text, nil, []uint64{0, 1 << 62}, ""},
		{8, nil, []uint64{0, 1 << 62}, ""},
	} {
		w := laid(t, s, c.kind, c.tagged, c.raws)
		wantTold(t, s, w, false, c.text != "", false)
		if n, _ := s.Num(w); c.text != "" && num.Text(n) != c.text {
			t.Errorf("%x: %s", c.raws, num.Text(n))
		}
	}
}

// A number that lies there may be longer than Number makes them.
func TestNumberOfAnyLength(t *testing.T) {
	s := store(t, 1000)
	raws := make([]uint64, 2+api.MaxLimbs/2)
	raws[len(raws)-1] = 1
	n, ok := s.Num(laid(t, s, Number, nil, raws))
	if !ok || len(n.Mag) != api.MaxLimbs+1 || num.Cmp(n, limbs(api.MaxLimbs+1)) != 0 {
		t.Fatalf("%v, %v", n, ok)
	}
}

func TestNoSymbol(t *testing.T) {
	s := store(t, 1000)
	text := made(t)(s.Text([]byte("a")))
	symbol := laid(t, s, Symbol, []uint64{text}, nil)
	if name, ok := s.Name(symbol); !ok || name != "a" {
		t.Errorf("%q, %v", name, ok)
	}
	for _, c := range []struct {
		kind   int
		tagged []uint64
		raws   []uint64
	}{
		{Symbol, nil, nil},
		{Symbol, []uint64{text, text}, nil},
		{Symbol, []uint64{text}, []uint64{0}},
		{Symbol, []uint64{symbol}, nil},
		{Symbol, []uint64{fix(1)}, nil},
		{Symbol, []uint64{Empty}, nil},
		{Symbol, nil, []uint64{text}},
		{Box, []uint64{text}, nil},
		{Vector, []uint64{text}, nil},
	} {
		wantTold(t, s, laid(t, s, c.kind, c.tagged, c.raws), false, false, false)
	}
}
