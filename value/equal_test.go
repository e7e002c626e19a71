package value_test

import (
	"slices"
	"testing"

	"tandem/api"
	"tandem/num"
	"tandem/value"
)

func wantEqual(t *testing.T, s *value.Store, a, b uint64, same, ends bool) {
	t.Helper()
	for _, c := range [][2]uint64{{a, b}, {b, a}} {
		if gotSame, gotEnds := s.Equal(c[0], c[1]); gotSame != same || gotEnds != ends {
			t.Errorf("Equal(%d, %d): %v, %v; should be %v, %v", c[0], c[1], gotSame, gotEnds, same, ends)
		}
	}
}

func wantEqv(t *testing.T, s *value.Store, a, b uint64, want bool) {
	t.Helper()
	if s.Eqv(a, b) != want || s.Eqv(b, a) != want {
		t.Errorf("Eqv(%d, %d) should be %v", a, b, want)
	}
}

// Numbers of one value are eqv, however they were made.
func TestEqvOfNumbers(t *testing.T) {
	s := store(t, 10000)
	texts := []string{
		"0", "1", "-1", "2305843009213693951", "-2305843009213693952", "2305843009213693952", "-2305843009213693953",
		"2305843009213693953", "18446744073709551615", "18446744073709551616", "-18446744073709551616", "36893488147419103232",
		"340282366920938463463374607431768211456", "-340282366920938463463374607431768211456", "340282366920938463463374607431768211457",
	}
	for i, a := range texts {
		for j, b := range texts {
			x := made(t)(s.Number(big(t, a)))
			y := made(t)(s.Number(num.Sub(num.Add(big(t, b), big(t, "99999999999999999999")), big(t, "99999999999999999999"))))
			wantEqv(t, s, x, y, i == j)
			wantEqual(t, s, x, y, i == j, true)
		}
	}
	s = store(t, 100)
	x := laid(t, s, Number, nil, []uint64{1, 5, 6})
	wantEqv(t, s, x, made(t)(s.Number(api.Num{Neg: true, Mag: []uint32{5, 0, 6, 0}})), true)
	wantEqv(t, s, x, laid(t, s, Number, nil, []uint64{0, 5, 6}), false)
	wantEqv(t, s, x, laid(t, s, Number, nil, []uint64{1, 5, 6, 7}), false)
	// What is no number is eqv to none, though its raw words are the same.
	wantEqv(t, s, x, laid(t, s, 20, nil, []uint64{1, 5, 6}), false)
	wantEqv(t, s, x, laid(t, s, Number, []uint64{5}, []uint64{1, 5, 6}), false)
}

// Of all but numbers the words are the same, or they are not eqv.
func TestEqvOfOthers(t *testing.T) {
	s := store(t, 1000)
	twice := func() []uint64 {
		return []uint64{
			made(t)(s.Text(nil)), made(t)(s.Text([]byte("ab"))), made(t)(s.Cons(5, 9)), made(t)(s.Vector()), made(t)(s.Vector(5)),
			laid(t, s, Box, []uint64{5}, nil), laid(t, s, Closure, nil, []uint64{1}), laid(t, s, Symbol, []uint64{4}, nil),
			laid(t, s, Condition, []uint64{5, 5, 5}, nil), laid(t, s, Number, nil, []uint64{0, 5}), laid(t, s, Number, nil, []uint64{0, 5, 0}),
			laid(t, s, Number, []uint64{5}, []uint64{0, 1 << 62}), laid(t, s, Number, nil, []uint64{2, 1 << 62}), laid(t, s, Number, nil, nil),
			laid(t, s, 20, nil, []uint64{0, 1 << 62}),
		}
	}
	words := append([]uint64{0, 1, 2, 3, 6, 10, 14, 18, char(1), prim(1), head(1, 2, 0), 1<<64 - 1, 1 << 40}, twice()...)
	words = append(words, twice()...)
	for i, a := range words {
		for j, b := range words {
			wantEqv(t, s, a, b, i == j)
		}
	}
}

func TestEqual(t *testing.T) {
	s := store(t, 2000)
	text := func(b string) uint64 { return made(t)(s.Text([]byte(b))) }
	bigOne := func() uint64 { return made(t)(s.Number(limbs(4))) }
	symbol := made(t)(s.Intern("ab"))
	list := func(items ...uint64) uint64 { return made(t)(s.List(items...)) }
	vector := func(items ...uint64) uint64 { return made(t)(s.Vector(items...)) }
	cons := func(a, b uint64) uint64 { return made(t)(s.Cons(a, b)) }
	for i, c := range []struct {
		a, b uint64
		same bool
	}{
		{text("ab"), text("ab"), true},
		{text(""), text(""), true},
		{text("ab"), text("ac"), false},
		{text("ab"), text("ab\x00"), false},
		{text("abcdefgh"), text("abcdefghi"), false},
		{text("abcdefghi"), text("abcdefghj"), false},
		{text("ab"), symbol, false},
		{symbol, symbol, true},
		{symbol, laid(t, s, Symbol, []uint64{text("ab")}, nil), false},
		{list(5, 9), list(5, 9), true},
		{list(5, 9), list(5, 13), false},
		{list(5, 9), list(5), false},
		{list(5, 9), cons(5, 9), false},
		{cons(5, 9), cons(5, 9), true},
		{list(), list(), true},
		{list(), vector(), false},
		{vector(), vector(), true},
		{vector(5, 9), vector(5, 9), true},
		{vector(5, 9), vector(9, 5), false},
		{vector(5, 9), vector(5), false},
		{vector(5, 9), cons(5, 9), false},
		{vector(), text(""), false},
		{list(text("x"), bigOne()), list(text("x"), bigOne()), true},
		{list(vector(list(text("x")))), list(vector(list(text("x")))), true},
		{list(vector(list(text("x")))), list(vector(list(text("y")))), false},
		{laid(t, s, Box, []uint64{5}, nil), laid(t, s, Box, []uint64{5}, nil), false},
		{laid(t, s, Closure, nil, []uint64{5}), laid(t, s, Closure, nil, []uint64{5}), false},
		{laid(t, s, Condition, []uint64{symbol, 5, Empty}, nil), laid(t, s, Condition, []uint64{symbol, 5, Empty}, nil), false},
		// Objects that only look like the table's.
		{laid(t, s, Pair, []uint64{5}, nil), laid(t, s, Pair, []uint64{5}, nil), false},
		{laid(t, s, Pair, []uint64{5, 5, 5}, nil), laid(t, s, Pair, []uint64{5, 5, 5}, nil), false},
		{laid(t, s, Pair, []uint64{5, 5}, []uint64{0}), laid(t, s, Pair, []uint64{5, 5}, []uint64{0}), false},
		{laid(t, s, Vector, []uint64{5}, []uint64{0}), laid(t, s, Vector, []uint64{5}, []uint64{0}), false},
		{laid(t, s, Text, nil, []uint64{1, 1 << 8}), laid(t, s, Text, nil, []uint64{1, 1 << 8}), false},
		{laid(t, s, Text, []uint64{5}, []uint64{0}), laid(t, s, Text, []uint64{5}, []uint64{0}), false},
		{0, 0, true}, {3, 3, true}, {0, 3, false}, {False, Empty, false},
		{char(65), char(65), true}, {char(65), char(66), false}, {char(65), prim(65), false},
	} {
		if same, ends := s.Equal(c.a, c.b); same != c.same || !ends {
			t.Errorf("%d: %v, %v", i, same, ends)
		}
		wantEqual(t, s, c.a, c.b, c.same, true)
	}
}

// A vector of n items takes 1 + n comparisons, the list of n fixnums 1 + 2 n.
func TestStepsOfEqual(t *testing.T) {
	s := store(t, api.MaxWords)
	fives := slices.Repeat([]uint64{5}, api.MaxSteps)
	most := api.MaxSteps - 1
	vector := func(n int, more ...uint64) uint64 { return made(t)(s.Vector(append(fives[:n:n], more...)...)) }
	list := func(n int) uint64 { return made(t)(s.List(fives[:n]...)) }
	wantEqual(t, s, vector(most), vector(most), true, true)
	wantEqual(t, s, vector(most+1), vector(most+1), false, false)
	wantEqual(t, s, vector(most-1, 5), vector(most-1, 9), false, true)
	wantEqual(t, s, vector(most, 5), vector(most, 9), false, false)
	wantEqual(t, s, vector(most+1), vector(most), false, true)
	wantEqual(t, s, list(9999), list(9999), true, true)
	wantEqual(t, s, list(10000), list(10000), false, false)
	wantEqual(t, s, list(9999), list(9998), false, true)
	// One more word beside the list: 1 + 1 + 2 n.
	wantEqual(t, s, made(t)(s.Vector(list(9999))), made(t)(s.Vector(list(9999))), true, true)
	wantEqual(t, s, made(t)(s.Vector(list(9999), 5)), made(t)(s.Vector(list(9999), 5)), false, false)
	// One object is eqv to itself, and no part of it is looked at.
	l := list(15000)
	wantEqual(t, s, l, l, true, true)
	wantEqual(t, s, made(t)(s.Cons(5, l)), made(t)(s.Cons(5, l)), true, true)
	// Texts and numbers are one comparison, however long.
	text := made(t)(s.Text(make([]byte, 1<<18)))
	again := made(t)(s.Text(make([]byte, 1<<18)))
	wantEqual(t, s, text, again, true, true)
}

// A chain of pairs by their cars goes as deep as there are comparisons.
func TestDeepEqual(t *testing.T) {
	s := store(t, api.MaxWords)
	chain := func(n int) uint64 {
		w := uint64(Empty)
		for range n {
			w = made(t)(s.Cons(w, 5))
		}
		return w
	}
	wantEqual(t, s, chain(9999), chain(9999), true, true)
	wantEqual(t, s, chain(10000), chain(10000), false, false)
	wantEqual(t, s, chain(100000), chain(100000), false, false)
}

// cars come ahead of cdrs, items in order: what goes round hides what stands behind it, not what stands ahead.
func TestOrderOfEqual(t *testing.T) {
	s := store(t, api.MaxWords)
	round := func(field int) uint64 {
		p := made(t)(s.Cons(5, 5))
		s.Set(p, field, p)
		return p
	}
	for _, field := range []int{0, 1} {
		a, b := round(field), round(field)
		wantEqual(t, s, a, b, false, false)
		wantEqual(t, s, a, a, true, true)
		wantEqual(t, s, made(t)(s.Cons(a, 5)), made(t)(s.Cons(b, 9)), false, false)
		wantEqual(t, s, made(t)(s.Cons(5, a)), made(t)(s.Cons(9, b)), false, true)
		wantEqual(t, s, made(t)(s.Vector(5, a, 5)), made(t)(s.Vector(9, b, 5)), false, true)
		wantEqual(t, s, made(t)(s.Vector(5, a, 5)), made(t)(s.Vector(5, b, 9)), false, false)
	}
	a, b := round(1), round(1)
	s.Set(b, 0, 9)
	wantEqual(t, s, a, b, false, true)
	// Great vectors that hold themselves first take no more room than any others.
	a, b = made(t)(s.Vector(zeros(200000)...)), made(t)(s.Vector(zeros(200000)...))
	s.Set(a, 0, a)
	s.Set(b, 0, b)
	wantEqual(t, s, a, b, false, false)
}

// zeros is a list of that many fixnums 0.
func zeros(n int) []uint64 { return slices.Repeat([]uint64{1}, n) }

// meant is Equal as the chapter says it, with the comparisons that it takes, asked of heap's methods alone.
type meant struct {
	s     *value.Store
	steps int
}

func (m *meant) equal(a, b uint64) bool {
	m.steps++
	if m.steps > api.MaxSteps {
		return false
	}
	if a == b {
		return true
	}
	x, xIs := m.s.Num(a)
	y, yIs := m.s.Num(b)
	if xIs && yIs {
		return num.Cmp(x, y) == 0
	}
	v, vIs := m.s.Bytes(a)
	w, wIs := m.s.Bytes(b)
	if vIs && wIs {
		return string(v) == string(w)
	}
	kind, fields := m.s.Kind(a), m.s.Tagged(a)
	if kind != m.s.Kind(b) || fields != m.s.Tagged(b) || kind == Vector && m.s.Raws(a)+m.s.Raws(b) > 0 {
		return false
	}
	if kind != Vector && (kind != Pair || fields != 2 || m.s.Raws(a)+m.s.Raws(b) > 0) {
		return false
	}
	for i := range fields {
		f, _ := m.s.Get(a, i)
		g, _ := m.s.Get(b, i)
		if !m.equal(f, g) {
			return false
		}
	}
	return true
}

// Any two words of heaps of any objects, that go round too.
func TestEqualAgainstMeaning(t *testing.T) {
	counts := map[[2]bool]int{}
	for seed := range 300 {
		d := dice(seed + 1)
		s := store(t, 400)
		objects := d.scatter(s, 30)
		for range 100 {
			a, b := d.pick(objects), d.pick(objects)
			m := meant{s: s}
			same := m.equal(a, b)
			ends := m.steps <= api.MaxSteps
			same = same && ends
			wantEqual(t, s, a, b, same, ends)
			counts[[2]bool{same && a != b, ends}]++
		}
	}
	for _, c := range [][2]bool{{true, true}, {false, true}, {false, false}} {
		if counts[c] < 10 {
			t.Errorf("%v: only %d", c, counts[c])
		}
	}
}
