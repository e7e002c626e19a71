package prim_test

import (
	"slices"
	"testing"

	"tandem/api"
	"tandem/num"
	"tandem/prim"
	"tandem/show"
	"tandem/value"
)

// dice is a row of numbers that is the same in each run.
type dice uint64

func (d *dice) below(n int) int {
	*d ^= *d << 13
	*d ^= *d >> 7
	*d ^= *d << 17
	return int(uint64(*d>>11) % uint64(n))
}

func (d *dice) pick(words []uint64) uint64 { return words[d.below(len(words))] }

// heapOf lays values of all kinds, and tells them by the letter of their kind.
func (d *dice) heapOf(t *testing.T, s *value.Store) map[byte][]uint64 {
	all := map[byte][]uint64{'c': {char(0), char('a'), char('b'), char(255)}, 'n': {fix(0), fix(1), fix(2), fix(3), fix(-1), fix(-7), fix(255), fix(256), fix(1<<61 - 1), fix(-1 << 61)}}
	any := []uint64{False, True, Empty, Void, Undefined, primitive(0), primitive(86), 3, 0, 1 << 40, 300<<8 | 22}
	for _, n := range []string{"2305843009213693952", "-2305843009213693953", "99999999999999999999", "-18446744073709551616", "340282366920938463463374607431768211455"} {
		all['n'] = append(all['n'], put(t, s, n), put(t, s, n))
	}
	top := made(t)(s.Number(most()))
	all['n'] = append(all['n'], top, made(t)(s.Number(num.Neg(most()))))
	for _, b := range []string{"", "a", "ab", "abcdefgh", "abcdefghi", "12", "-99999999999999999999", "\xff\x00"} {
		all['t'] = append(all['t'], made(t)(s.Text([]byte(b))))
		all['s'] = append(all['s'], made(t)(s.Intern(b)))
	}
	for _, letter := range []byte("cnts") {
		any = append(any, all[letter]...)
	}
	some := func(from []uint64) []uint64 {
		items := make([]uint64, d.below(5))
		for i := range items {
			items[i] = d.pick(from)
		}
		return items
	}
	for range 6 {
		v, l, chars := made(t)(s.Vector(some(values(s, any))...)), made(t)(s.List(some(values(s, any))...)), made(t)(s.List(some(all['c'])...))
		pair := made(t)(s.Cons(d.pick(values(s, any)), d.pick(values(s, any))))
		items := made(t)(s.List(pair, made(t)(s.Cons(d.pick(all['n']), l)), made(t)(s.Cons(d.pick(all['s']), v))))
		all['v'], all['p'], all['l'] = append(all['v'], v), append(all['p'], pair, items), append(all['l'], l, chars, items, Empty)
		any = append(any, v, l, chars, pair, items)
		all['p'] = append(all['p'], ring(t, s, d.below(4), 1+d.below(8))[0])
		all['q'] = append(all['q'], object(t, s, Condition, []uint64{all['s'][0], d.pick(values(s, any)), l}, nil))
	}
	any = append(any, object(t, s, Closure, nil, []uint64{1}), object(t, s, Continuation, []uint64{Empty}, nil), object(t, s, Pair, []uint64{Empty}, nil), object(t, s, Text, nil, []uint64{5}))
	all['.'] = slices.Concat(any, all['q'], all['p'])
	return all
}

// values are those of the words that may be set.
func values(s *value.Store, words []uint64) []uint64 {
	return slices.DeleteFunc(slices.Clone(words), func(w uint64) bool { return w%4 == 3 || w%4 == 0 && !s.Is(w) })
}

// arguments are some of a primitive, most of them such as it takes.
func (d *dice) arguments(p api.Prim, all map[byte][]uint64) []uint64 {
	count := p.Least + d.below(3)
	if p.Most >= 0 && d.below(20) > 0 {
		count = min(count, p.Most)
	}
	letters := kinds(p.Name)
	switch {
	case p.Name == "append":
		letters = "l"
	case p.Most == 2 && letters == ".":
		letters = ".l"
	}
	args := make([]uint64, count)
	for i := range args {
		letter := letters[min(i, len(letters)-1)]
		if d.below(8) == 0 {
			letter = '.'
		}
		args[i] = d.pick(all[letter])
		if i > 0 && letter == 'n' && letters != "n" && d.below(4) > 0 {
			args[i] = fix(d.below(5))
		}
	}
	return args
}

// P12.3, P12.4: calls with values of all kinds come to what the second way comes to, and turn nothing but what they are to.
func TestCompare(t *testing.T) {
	d := dice(7)
	seen := map[string]map[int]int{}
	for range 60 {
		s := store(t, 2500)
		all := d.heapOf(t, s)
		for _, p := range doable() {
			for range 6 {
				args := d.arguments(p, all)
				how := wantSame(t, s, p.Name, args)
				if seen[p.Name] == nil {
					seen[p.Name] = map[int]int{}
				}
				seen[p.Name][how]++
				if s.Size()-s.Used() < 700 {
					s = store(t, 2500)
					all = d.heapOf(t, s)
				}
			}
		}
	}
	for _, p := range doable() {
		if seen[p.Name][api.Done] < 20 {
			t.Errorf("%s: %v", p.Name, seen[p.Name])
		}
	}
}

func wantSame(t *testing.T, s *value.Store, name string, args []uint64) int {
	t.Helper()
	want := model{s, name, slices.Clone(args)}.come()
	was := s.Words()
	c := do(t, s, name, args...)
	if c.how != want.how || c.out != want.out {
		t.Fatalf("%s %v: %+v, not %+v", name, args, c, want)
	}
	switch {
	case c.how == api.Wrong:
		wantCondition(t, s, c.w, want.class, name, model{s, name, slices.Clone(args)}.clean()...)
	case want.d == nil && c.w != want.word:
		t.Fatalf("%s %v: %d, not %d", name, args, c.w, want.word)
	case want.d != nil && want.d.Kind != 0:
		wantNew(t, s, name, c.w, uint64(len(was))*4, *want.d)
	}
	wantTurned(t, s, name, args, was)
	return c.how
}

// clean are the arguments as values.
func (m model) clean() []uint64 {
	for i, w := range m.args {
		if w%4 == 3 || w%4 == 0 && !m.s.Is(w) {
			m.args[i] = Void
		}
	}
	return m.args
}

// wantNew wants a datum; one that is an object is laid from a place on, but for symbols.
func wantNew(t *testing.T, s *value.Store, name string, w, from uint64, want api.Datum) {
	t.Helper()
	got, ok := s.Take(w, api.MaxSteps)
	if !ok {
		return
	}
	// A list with a list as its rest is one list, as it is told.
	for len(want.Rest) == 1 && want.Rest[0].Kind == api.List {
		want.Items, want.Rest = slices.Concat(want.Items, want.Rest[0].Items), want.Rest[0].Rest
	}
	if show.Write(got) != show.Write(want) {
		t.Fatalf("%s: %s, not %s", name, show.Write(got), show.Write(want))
	}
	if s.Is(w) && w < from && want.Kind != api.Symbol {
		t.Fatalf("%s: %d was there", name, w)
	}
}

// wantTurned wants that nothing was turned of what was there, but by those that turn it.
func wantTurned(t *testing.T, s *value.Store, name string, args, was []uint64) {
	t.Helper()
	now := s.Words()
	clean := model{s, name, slices.Clone(args)}.clean()
	for place := range was {
		if now[place] == was[place] {
			continue
		}
		at := uint64(place) * 4
		ok := false
		switch name {
		case "set-car!":
			ok = at == args[0]+4 && now[place] == clean[1]
		case "set-cdr!":
			ok = at == args[0]+8 && now[place] == clean[1]
		case "vector-set!":
			n, _ := value.Int(args[1])
			ok = at == args[0]+4+uint64(n)*4 && now[place] == clean[2]
		case "vector-fill!":
			ok = at > args[0] && at <= args[0]+uint64(s.Tagged(args[0]))*4 && now[place] == clean[1]
		}
		if !ok {
			t.Fatalf("%s %v: place %d was turned from %d to %d", name, args, place, was[place], now[place])
		}
	}
}

// P12.4: answers hang on the arguments' values alone: other objects and other places turn nothing.
func TestValuesAlone(t *testing.T) {
	d := dice(11)
	for range 3000 {
		p := doable()[d.below(85)]
		a, b := store(t, 3000), store(t, 4000)
		texts := []string{"0", "1", "-5", "99999999999999999999", `"ab"`, "a", "()", "(1 2)", "(a . b)", "((a 1) (b 2))", "#(1 2)", "#\\a", "#t", "(#\\a #\\b)"}
		var left, right []uint64
		for range p.Least + d.below(2) {
			one := texts[d.below(len(texts))]
			left = append(left, put(t, a, one))
			made(t)(b.Cons(fix(1), Empty))
			made(t)(b.Intern("other"))
			right = append(right, put(t, b, one))
		}
		x, y := do(t, a, p.Name, left...), do(t, b, p.Name, right...)
		if x.how != y.how || x.out != y.out || x.how <= api.Wrong && written(t, a, x.w) != written(t, b, y.w) {
			t.Fatalf("%s: %+v, %+v", p.Name, x, y)
		}
	}
}

// R4: the same calls on the same store come to the same words, whatever other stores have been through.
func TestSameAgain(t *testing.T) {
	run := func(other *value.Store) []uint64 {
		d := dice(13)
		s := store(t, 200000)
		all := d.heapOf(t, s)
		for range 2000 {
			p := doable()[d.below(85)]
			args := d.arguments(p, all)
			prim.Do(s, prim.Number(p.Name), args...)
			if other != nil {
				prim.Do(other, prim.Number(p.Name), fix(1), fix(2))
			}
		}
		return s.Words()
	}
	if !slices.Equal(run(nil), run(store(t, api.MaxWords))) {
		t.Error("two runs differ")
	}
}

// R1: any words on a heap of any objects: nothing panics, and every call ends.
func TestAnyWords(t *testing.T) {
	d := dice(17)
	for range 40 {
		s := store(t, 1000)
		for range 60 {
			p, ok := s.Alloc(1+d.below(10), d.below(4), d.below(4))
			for i := range s.Raws(p) {
				s.SetRaw(p, i, []uint64{0, 1, 2, 3, 8, 9, 1 << 62, 1 << 63, 1<<64 - 1}[d.below(9)])
			}
			for i := range s.Tagged(p) {
				s.Set(p, i, uint64(d.below(s.Used()))*4)
			}
			if !ok {
				break
			}
		}
		for range 3000 {
			p := listed()[d.below(92)]
			args := make([]uint64, d.below(5))
			for i := range args {
				args[i] = uint64(d.below(s.Used() * 5))
			}
			do(t, s, p.Name, args...)
			if s.Size() == s.Used() {
				s.Keep()
			}
		}
	}
}
