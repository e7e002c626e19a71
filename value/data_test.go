package value_test

import (
	"math"
	"reflect"
	"slices"
	"testing"

	"tandem/api"
	"tandem/num"
	"tandem/value"
)

func integer(n api.Num) api.Datum { return api.Datum{Kind: api.Int, Num: n} }

func whole(v int64) api.Datum { return integer(num.Of(v)) }

func boolean(n int) api.Datum { return api.Datum{Kind: api.Bool, N: n} }

func letter(n int) api.Datum { return api.Datum{Kind: api.Char, N: n} }

func text(b string) api.Datum { return api.Datum{Kind: api.String, Text: b} }

func symbol(name string) api.Datum { return api.Datum{Kind: api.Symbol, Text: name} }

func list(items ...api.Datum) api.Datum { return api.Datum{Kind: api.List, Items: items} }

func vector(items ...api.Datum) api.Datum { return api.Datum{Kind: api.Vector, Items: items} }

func dotted(rest api.Datum, items ...api.Datum) api.Datum {
	return api.Datum{Kind: api.List, Items: items, Rest: []api.Datum{rest}}
}

func void() api.Datum { return api.Datum{Kind: api.Void} }

func proc(n int) api.Datum { return api.Datum{Kind: api.Proc, N: n} }

func cond(class string, items ...api.Datum) api.Datum {
	return api.Datum{Kind: api.Cond, Text: class, Items: items}
}

// nested is a datum that is that deep, made of it alone by around.
func nested(deep int, around func(api.Datum) api.Datum, inner api.Datum) api.Datum {
	for range deep - 1 {
		inner = around(inner)
	}
	return inner
}

// Ways in which a datum may be one deeper.
func arounds() []func(api.Datum) api.Datum {
	return []func(api.Datum) api.Datum{
		func(d api.Datum) api.Datum { return list(d) },
		func(d api.Datum) api.Datum { return vector(d) },
		func(d api.Datum) api.Datum { return list(whole(1), d) },
		func(d api.Datum) api.Datum { return vector(whole(1), d, whole(2)) },
		func(d api.Datum) api.Datum { return dotted(whole(1), d) },
	}
}

func wantTaken(t *testing.T, s *value.Store, w uint64, most int, want api.Datum) {
	t.Helper()
	if got, ok := s.Take(w, most); !ok || !reflect.DeepEqual(normal(got), normal(want)) {
		t.Fatalf("Take(%d, %d): %+v, %v; should be %+v", w, most, got, ok, want)
	}
}

func wantNotTaken(t *testing.T, s *value.Store, w uint64, most int) {
	t.Helper()
	if got, ok := s.Take(w, most); ok || !reflect.DeepEqual(got, api.Datum{}) {
		t.Fatalf("Take(%d, %d): %+v, %v; should be refused", w, most, got, ok)
	}
}

// normal is a datum whose empty lists are nil: they are one.
func normal(d api.Datum) api.Datum {
	d.Num.Mag = append([]uint32(nil), d.Num.Mag...)
	d.Items, d.Rest = normalAll(d.Items), normalAll(d.Rest)
	return d
}

func normalAll(data []api.Datum) []api.Datum {
	var all []api.Datum
	for _, d := range data {
		all = append(all, normal(d))
	}
	return all
}

// parts is how many data a datum is.
func parts(d api.Datum) int {
	n := 1
	for _, p := range slices.Concat(d.Items, d.Rest) {
		n += parts(p)
	}
	return n
}

func TestPutWords(t *testing.T) {
	s := store(t, 2)
	for _, c := range []struct {
		d    api.Datum
		want uint64
	}{
		{whole(0), 1}, {whole(-1), 1<<64 - 3}, {whole(1<<61 - 1), 1<<63 - 3}, {whole(-1 << 61), 1<<63 + 1},
		{boolean(0), False}, {boolean(1), True}, {letter(0), 22}, {letter(1), 278}, {letter(255), 255*256 + 22},
		{list(), Empty}, {void(), Unspecified},
	} {
		if w := made(t)(s.Put(c.d)); w != c.want {
			t.Errorf("%+v: %d, should be %d", c.d, w, c.want)
		}
	}
	wantWords(t, s, 0)
}

// Parts are laid ahead of what they are part of, in order; a list's items, its Rest, its pairs, the last one first.
func TestPutOrder(t *testing.T) {
	s := store(t, 100)
	d := dotted(text("c"), text("a"), vector(list(text("b")), symbol("s")), symbol("s"))
	w := made(t)(s.Put(d))
	txt, cell := head(Text, 0, 2), head(Pair, 2, 0)
	wantWords(t, s, 0,
		txt, 1, 'a', // place 1
		txt, 1, 'b', // 4
		cell, 16, Empty, // 7
		txt, 1, 's', // 10
		head(Symbol, 1, 0), 40, // 13
		head(Vector, 2, 0), 28, 52, // 15
		txt, 1, 'c', // 18
		cell, 52, 72, // 21
		cell, 60, 84, // 24
		cell, 4, 96, // 27
	)
	if w != 108 {
		t.Fatalf("%d", w)
	}
	wantTaken(t, s, w, 8, d)
}

func TestPutOfNumbersAndTexts(t *testing.T) {
	s := store(t, 1000)
	made(t)(s.Put(integer(limbs(3))))
	made(t)(s.Put(integer(api.Num{Neg: true, Mag: []uint32{1, 1 << 30, 0}})))
	made(t)(s.Put(text("")))
	made(t)(s.Put(vector()))
	wantWords(t, s, 0, head(Number, 0, 3), 0, 0, 1, head(Number, 0, 2), 1, 1<<62|1, head(Text, 0, 1), 0, head(Vector, 0, 0))
	made(t)(s.Put(integer(limbs(api.MaxLimbs))))
	used := s.Used()
	refused(t)(s.Put(integer(limbs(api.MaxLimbs + 1))))
	if s.Used() != used {
		t.Fatal("laid")
	}
}

// A symbol's mark tells nothing.
func TestPutOfSymbol(t *testing.T) {
	s := store(t, 100)
	a := made(t)(s.Intern("a"))
	for _, n := range []int{0, 1, -1, math.MaxInt, math.MinInt} {
		if w := made(t)(s.Put(api.Datum{Kind: api.Symbol, Text: "a", N: n})); w != a {
			t.Fatalf("%d: %d", n, w)
		}
	}
	if b := made(t)(s.Put(symbol("b"))); b != made(t)(s.Intern("b")) {
		t.Fatal("not interned")
	}
}

// Data that may not be, each by itself, as an item, and as a Rest.
func TestPutRefuses(t *testing.T) {
	for _, d := range []api.Datum{
		{}, {Kind: -1}, {Kind: 11}, {Kind: math.MaxInt}, proc(0), proc(5), cond("x"), cond("x", whole(1)),
		boolean(2), boolean(-1), boolean(math.MinInt), letter(256), letter(-1), letter(math.MaxInt),
		integer(limbs(api.MaxLimbs + 1)),
		{Kind: api.List, Rest: []api.Datum{whole(1)}},
		{Kind: api.List, Rest: []api.Datum{whole(1), whole(2)}},
		{Kind: api.List, Items: []api.Datum{whole(1)}, Rest: []api.Datum{whole(1), whole(2)}},
		{Kind: api.List, Items: []api.Datum{whole(1)}, Rest: []api.Datum{list(), list()}},
	} {
		for _, around := range append(arounds(), func(d api.Datum) api.Datum { return d }, func(d api.Datum) api.Datum { return dotted(d, whole(1)) }) {
			s := store(t, 100)
			refused(t)(s.Put(around(d)))
			wantWords(t, s, 0)
		}
	}
}

func TestPutDepth(t *testing.T) {
	around := append(arounds(), func(d api.Datum) api.Datum { return dotted(d, whole(1)) })
	for i, around := range around {
		s := store(t, 10000)
		for _, inner := range []api.Datum{list(), vector(), whole(1), text("a")} {
			made(t)(s.Put(nested(api.MaxDepth, around, inner)))
			used := s.Used()
			refused(t)(s.Put(nested(api.MaxDepth+1, around, inner)))
			refused(t)(s.Put(nested(1000, around, inner)))
			if s.Used() != used {
				t.Fatalf("%d: laid", i)
			}
		}
	}
}

// A datum may hold itself.
func TestPutRound(t *testing.T) {
	items := make([]api.Datum, 3)
	for _, kind := range []int{api.List, api.Vector} {
		for i := range items {
			items[i] = api.Datum{Kind: kind, Items: items}
		}
		s := store(t, 1000)
		refused(t)(s.Put(items[0]))
		wantWords(t, s, 0)
	}
	rest := make([]api.Datum, 1)
	rest[0] = api.Datum{Kind: api.List, Items: []api.Datum{whole(1)}, Rest: rest}
	s := store(t, 1000)
	refused(t)(s.Put(rest[0]))
	wantWords(t, s, 0)
}

// One list may stand in many places: what is put is as great as it says, and ends where there is no more room.
func TestPutShared(t *testing.T) {
	for _, around := range []func(d api.Datum) api.Datum{
		func(d api.Datum) api.Datum { return list(d, d) },
		func(d api.Datum) api.Datum { return vector(d, d) },
		func(d api.Datum) api.Datum { return dotted(d, d) },
	} {
		s := store(t, 10000)
		refused(t)(s.Put(nested(api.MaxDepth, around, list())))
	}
}

// What was laid ahead of what may not be stays.
func TestPutLeaves(t *testing.T) {
	txt, cell := head(Text, 0, 2), head(Pair, 2, 0)
	a := []uint64{0, txt, 1, 'a'}
	symbolA := []uint64{0, txt, 1, 'a', head(Symbol, 1, 0), 4}
	wrong := letter(256)
	for i, c := range []struct {
		d    api.Datum
		want []uint64
	}{
		{list(text("a"), wrong, text("b")), a},
		{vector(text("a"), wrong, text("b")), a},
		{dotted(text("b"), text("a"), wrong), a},
		{dotted(wrong, text("a")), a},
		{list(list(text("a")), wrong), append(slices.Clone(a), cell, 4, Empty)},
		{vector(vector(text("a"), wrong)), a},
		{list(vector(text("a")), wrong), append(slices.Clone(a), head(Vector, 1, 0), 4)},
		{list(symbol("a"), wrong), symbolA},
		{list(text("a"), nested(api.MaxDepth, arounds()[0], text("b"))), a},
		{list(wrong, text("a")), []uint64{0}},
		{list(text("a"), proc(1)), a},
		{list(text("a"), dotted(wrong, whole(1)), text("b")), a},
		{list(text("a"), api.Datum{Kind: api.List, Rest: []api.Datum{text("b")}}), a},
	} {
		s := store(t, 1000)
		refused(t)(s.Put(c.d))
		if !slices.Equal(s.Words(), c.want) {
			t.Errorf("%d: %x, should be %x", i, s.Words(), c.want)
		}
	}
	s := store(t, 1000)
	refused(t)(s.Put(list(symbol("a"), wrong)))
	if made(t)(s.Intern("a")) != 16 || s.Used() != 6 {
		t.Error("what was interned stays so")
	}
}

// Where there is no room what was laid stays: it is the beginning of what is laid with more.
func TestPutWithoutRoom(t *testing.T) {
	d := dotted(text("c"), text("a"), vector(list(text("b"), whole(1)), symbol("s")), integer(limbs(5)), symbol("t"), list(whole(1), whole(2), whole(3)))
	rich := store(t, 1000)
	made(t)(rich.Put(d))
	all := rich.Words()
	// Where each object begins; a symbol and its text are one.
	var ends []int
	for place := 1; place < len(all); {
		ends = append(ends, place)
		w := uint64(place) * 4
		place += 1 + rich.Tagged(w) + rich.Raws(w)
		if place < len(all) && rich.Kind(uint64(place)*4) == Symbol {
			place += 2
		}
	}
	for words := 2; words < len(all); words++ {
		s := store(t, words)
		refused(t)(s.Put(d))
		stays := 1
		for _, end := range ends {
			if end <= words {
				stays = end
			}
		}
		wantWords(t, s, all[:stays]...)
	}
	made(t)(store(t, len(all)).Put(d))
}

// Fields that a kind does not have are not looked at.
func TestPutStrayFields(t *testing.T) {
	s := store(t, 1000)
	stray := api.Datum{N: 300, Num: limbs(300), Text: "x", Items: []api.Datum{{}}, Rest: []api.Datum{{}, {}}}
	for _, d := range []api.Datum{whole(5), boolean(1), letter(7), text("a"), symbol("a"), vector(whole(1)), void()} {
		wild := stray
		wild.Kind = d.Kind
		switch d.Kind {
		case api.Int:
			wild.Num = d.Num
		case api.Bool, api.Char:
			wild.N = d.N
		case api.String, api.Symbol:
			wild.Text = d.Text
		case api.Vector:
			wild.Items = d.Items
		}
		wantTaken(t, s, made(t)(s.Put(wild)), 10, d)
	}
}

func TestTakeWords(t *testing.T) {
	s := store(t, 2)
	for _, c := range []struct {
		w    uint64
		want api.Datum
	}{
		{1, whole(0)}, {fix(-7), whole(-7)}, {1<<63 - 3, whole(1<<61 - 1)}, {1<<63 + 1, whole(-1 << 61)},
		{False, boolean(0)}, {True, boolean(1)}, {Empty, list()}, {Unspecified, void()}, {Undefined, void()},
		{char(0), letter(0)}, {char(65), letter(65)}, {char(255), letter(255)}, {char(256), void()}, {char(1 << 40), void()}, {char(1<<56 - 1), void()},
		{prim(0), proc(0)}, {prim(38), proc(38)}, {prim(255), proc(255)}, {prim(256), proc(256)}, {prim(1 << 40), proc(1 << 40)}, {prim(1<<56 - 1), proc(1<<56 - 1)},
		{30, void()}, {22 + 32, void()}, {2 + 256, void()}, {6 + 256, void()}, {10 + 256, void()}, {1<<64 - 2, void()},
		{0, void()}, {4, void()}, {1<<64 - 4, void()}, {3, void()}, {7, void()}, {head(Pair, 2, 0), void()}, {1<<64 - 1, void()},
	} {
		wantTaken(t, s, c.w, 1, c.want)
		wantNotTaken(t, s, c.w, 0)
	}
}

func TestTakeObjects(t *testing.T) {
	s := store(t, 1000)
	put := func(d api.Datum) uint64 { return made(t)(s.Put(d)) }
	class, message := put(symbol("type")), put(text("car"))
	condition := func(fields ...uint64) uint64 { return laid(t, s, Condition, fields, nil) }
	three := put(list(whole(1), whole(2), list()))
	for _, c := range []struct {
		w    uint64
		want api.Datum
	}{
		{laid(t, s, Closure, nil, []uint64{0}), proc(0)},
		{laid(t, s, Closure, []uint64{5, three}, []uint64{7}), proc(7)},
		{laid(t, s, Closure, nil, []uint64{1 << 40}), proc(1 << 40)},
		{laid(t, s, Closure, nil, nil), void()},
		{laid(t, s, Closure, []uint64{5}, []uint64{1, 2}), void()},
		{laid(t, s, Box, []uint64{5}, nil), void()},
		{laid(t, s, 8, []uint64{5, 5}, nil), void()},
		{laid(t, s, 10, []uint64{5, 5, 5}, nil), void()},
		{condition(class, message, three), cond("type", text("car"), whole(1), whole(2), list())},
		{condition(class, message, Empty), cond("type", text("car"))},
		{condition(class, message, fix(5)), cond("type", text("car"))},
		{condition(class, message, put(dotted(whole(9), whole(1), whole(2)))), cond("type", text("car"), whole(1), whole(2))},
		{condition(message, class, Empty), cond("", symbol("type"))},
		{condition(False, three, three), cond("", list(whole(1), whole(2), list()), whole(1), whole(2), list())},
		{condition(class, Undefined, message), cond("type", void())},
		{laid(t, s, Condition, []uint64{class, message}, nil), void()},
		{laid(t, s, Condition, []uint64{class, message, Empty, Empty}, nil), void()},
		{laid(t, s, Condition, []uint64{class, message, Empty}, []uint64{0}), void()},
		{laid(t, s, Pair, []uint64{5}, nil), void()},
		{laid(t, s, Pair, []uint64{5, 5, 5}, nil), void()},
		{laid(t, s, Pair, []uint64{5, Empty}, []uint64{0}), void()},
		{laid(t, s, Vector, []uint64{5}, []uint64{0}), void()},
		{laid(t, s, Text, nil, []uint64{1, 0x4141}), void()},
		{laid(t, s, Text, nil, nil), void()},
		{laid(t, s, Number, nil, []uint64{0, 5}), void()},
		{laid(t, s, Number, nil, []uint64{1, 5, 6}), integer(api.Num{Neg: true, Mag: []uint32{5, 0, 6}})},
		{laid(t, s, Symbol, []uint64{message}, nil), symbol("car")},
		{laid(t, s, Symbol, []uint64{class}, nil), void()},
		{laid(t, s, Symbol, []uint64{fix(1)}, nil), void()},
		{made(t)(s.Cons(fix(1), laid(t, s, Pair, []uint64{5}, nil))), dotted(void(), whole(1))},
		{made(t)(s.Cons(Undefined, Undefined)), dotted(void(), void())},
		{made(t)(s.Cons(fix(1), made(t)(s.Cons(fix(2), made(t)(s.Vector(fix(3))))))), dotted(vector(whole(3)), whole(1), whole(2))},
		{made(t)(s.Cons(three, three)), list(list(whole(1), whole(2), list()), whole(1), whole(2), list())},
	} {
		n := parts(c.want)
		wantTaken(t, s, c.w, n, c.want)
		wantTaken(t, s, c.w, math.MaxInt, c.want)
		for most := range n {
			wantNotTaken(t, s, c.w, most)
		}
		wantNotTaken(t, s, c.w, -1)
		wantNotTaken(t, s, c.w, math.MinInt)
	}
}

// A Rest that is a list is the chain's own.
func TestPutListAsRest(t *testing.T) {
	s := store(t, 1000)
	wantTaken(t, s, made(t)(s.Put(dotted(list(whole(2), whole(3)), whole(1)))), 4, list(whole(1), whole(2), whole(3)))
	wantTaken(t, s, made(t)(s.Put(dotted(list(), whole(1)))), 2, list(whole(1)))
	wantTaken(t, s, made(t)(s.Put(dotted(dotted(text("x"), whole(2)), whole(1)))), 4, dotted(text("x"), whole(1), whole(2)))
}

func TestTakeDepth(t *testing.T) {
	for i, around := range arounds() {
		s := store(t, 10000)
		d := nested(api.MaxDepth, around, text("a"))
		w := made(t)(s.Put(d))
		wantTaken(t, s, w, api.MaxSteps, d)
		for _, deeper := range []uint64{made(t)(s.Cons(w, Empty)), made(t)(s.Cons(fix(1), made(t)(s.Cons(w, Empty)))), made(t)(s.Vector(w)), laid(t, s, Condition, []uint64{False, w, Empty}, nil), laid(t, s, Condition, []uint64{False, 5, made(t)(s.Cons(w, Empty))}, nil)} {
			if got, ok := s.Take(deeper, api.MaxSteps); ok {
				t.Errorf("%d: %+v", i, got)
			}
		}
	}
	s := store(t, 10000)
	// A chain is one list, however long; what ends it is one deeper.
	long := made(t)(s.List(zeros(1000)...))
	wantTaken(t, s, long, 1001, list(slices.Repeat([]api.Datum{whole(0)}, 1000)...))
	inner := nested(api.MaxDepth-1, func(d api.Datum) api.Datum { return vector(d) }, whole(1))
	w := made(t)(s.Put(inner))
	wantTaken(t, s, made(t)(s.Cons(5, w)), api.MaxSteps, dotted(inner, whole(1)))
	wantNotTaken(t, s, made(t)(s.Cons(5, made(t)(s.Vector(w)))), api.MaxSteps)
}

func TestTakeParts(t *testing.T) {
	s := store(t, api.MaxWords)
	for _, n := range []int{api.MaxSteps - 1, api.MaxSteps, api.MaxSteps + 1, 100000} {
		for i, w := range []uint64{made(t)(s.List(zeros(n)...)), made(t)(s.Vector(zeros(n)...))} {
			for _, most := range []int{api.MaxSteps, api.MaxSteps + 1, math.MaxInt} {
				got, ok := s.Take(w, most)
				if fits := 1+n <= api.MaxSteps; ok != fits || fits && len(got.Items) != n || !fits && got.Kind != 0 {
					t.Fatalf("%d: %d items, most %d: %v", i, n, most, ok)
				}
			}
			wantNotTaken(t, s, w, api.MaxSteps-1)
		}
	}
	wantNotTaken(t, s, made(t)(s.Vector(slices.Repeat([]uint64{5}, api.MaxSteps)...)), math.MaxInt)
	// What ends a chain counts too.
	most := slices.Repeat([]uint64{5}, api.MaxSteps-2)
	chain := made(t)(s.List(most...))
	if _, ok := s.Take(chain, api.MaxSteps-1); !ok {
		t.Fatal("with the empty list at its end")
	}
	last := chain
	for {
		next, _ := s.Get(last, 1)
		if next == Empty {
			break
		}
		last = next
	}
	s.Set(last, 1, fix(1))
	wantNotTaken(t, s, chain, api.MaxSteps-1)
	if got, ok := s.Take(chain, api.MaxSteps); !ok || len(got.Rest) != 1 {
		t.Fatal("with a Rest")
	}
}

// What goes round has no datum.
func TestTakeRound(t *testing.T) {
	s := store(t, 1000)
	for field := range 2 {
		p := made(t)(s.Cons(5, 5))
		s.Set(p, field, p)
		wantNotTaken(t, s, p, math.MaxInt)
		wantNotTaken(t, s, laid(t, s, Condition, []uint64{False, 5, p}, nil), math.MaxInt)
		wantNotTaken(t, s, laid(t, s, Condition, []uint64{False, p, 5}, nil), math.MaxInt)
	}
	v := made(t)(s.Vector(5, 5))
	s.Set(v, 0, v)
	s.Set(v, 1, v)
	wantNotTaken(t, s, v, math.MaxInt)
	c := laid(t, s, Condition, []uint64{False, 5, Empty}, nil)
	s.Set(c, 1, c)
	wantNotTaken(t, s, c, math.MaxInt)
	// A box, and a closure, has no parts.
	b := laid(t, s, Box, []uint64{5}, nil)
	s.Set(b, 0, b)
	wantTaken(t, s, b, 1, void())
}

// P4.6: what was put is taken as it was.
func TestTakeOfPut(t *testing.T) {
	for seed := range 2000 {
		d := dice(seed + 1)
		s := store(t, 5000)
		s.Alloc(60, d.below(3), d.below(3))
		want := d.datum(6)
		w, ok := s.Put(want)
		if !ok {
			t.Fatalf("%+v", want)
		}
		n := parts(want)
		wantTaken(t, s, w, n, want)
		wantNotTaken(t, s, w, n-1)
		w = s.Keep(w)[0]
		wantTaken(t, s, w, n, want)
		again := made(t)(s.Put(want))
		wantEqual(t, s, w, again, true, true)
	}
}
