package prim_test

import (
	"slices"
	"strings"
	"testing"

	"tandem/api"
	"tandem/num"
	"tandem/value"
)

// most is the greatest number of MaxLimbs limbs.
func most() api.Num {
	return api.Num{Mag: slices.Repeat([]uint32{1<<32 - 1}, api.MaxLimbs)}
}

// long lays a number that no primitive answers: it has more than MaxLimbs limbs.
func long(t *testing.T, s *value.Store, sign uint64) uint64 {
	raws := make([]uint64, 1+api.MaxLimbs/2+1)
	raws[0], raws[len(raws)-1] = sign, 1
	return object(t, s, Number, nil, raws)
}

// wantLimit wants Limit, though there is no room either, and nothing laid.
func wantLimit(t *testing.T, s *value.Store, name string, args ...uint64) {
	t.Helper()
	was := s.Used()
	if c := do(t, s, name, args...); c != (come{0, "", api.Limit}) || s.Used() != was {
		t.Errorf("%s: %+v", name, c)
	}
}

// P12.3: answers of up to MaxLimbs limbs, and no more.
func TestLimbs(t *testing.T) {
	s := store(t, 20000)
	top := made(t)(s.Number(most()))
	low := made(t)(s.Number(num.Neg(most())))
	half := made(t)(s.Number(api.Num{Mag: append(make([]uint32, 127), 1<<31)})) // 2^4095
	double := made(t)(s.Number(api.Num{Mag: append(make([]uint32, 128), 1)}))   // 2^4096
	for _, c := range []struct {
		name string
		args []uint64
		want api.Num
	}{
		{"+", []uint64{top}, most()}, {"+", []uint64{top, fix(1), fix(-1)}, most()}, {"+", []uint64{top, top, low}, most()}, {"+", []uint64{top, low}, num.Of(0)}, {"-", []uint64{top}, num.Neg(most())}, {"-", []uint64{low}, most()}, {"-", []uint64{top, top}, num.Of(0)}, {"*", []uint64{top, fix(-1)}, num.Neg(most())}, {"*", []uint64{top, top, fix(0), top}, num.Of(0)}, {"*", []uint64{half, double}, num.Mul(api.Num{Mag: append(make([]uint32, 255), 1<<31)})},
		{"abs", []uint64{low}, most()}, {"max", []uint64{low, top}, most()}, {"min", []uint64{low, top}, num.Neg(most())}, {"gcd", []uint64{low, top}, most()}, {"quotient", []uint64{low, fix(-1)}, most()}, {"expt", []uint64{low, fix(1)}, num.Neg(most())},
	} {
		r := do(t, s, c.name, c.args...)
		if n, ok := s.Num(r.w); r.how != api.Done || !ok || num.Cmp(n, c.want) != 0 {
			t.Errorf("%s: %+v", c.name, r)
		}
	}
	if c := call(t, s, "(expt 2 8191)"); c.how != api.Done {
		t.Errorf("%+v", c)
	}
	fill(t, s, 0)
	wantLimit(t, s, "+", top, fix(1))
	wantLimit(t, s, "-", low, fix(1))
	wantLimit(t, s, "-", top, fix(-1))
	wantLimit(t, s, "*", top, fix(2))
	wantLimit(t, s, "*", double, double)
	wantLimit(t, s, "*", fix(-2), half, double)
	wantLimit(t, s, "expt", fix(2), fix(8192))
	wantLimit(t, s, "expt", fix(-2), fix(8192))
	wantLimit(t, s, "expt", fix(2), fix(1<<61-1))
	wantLimit(t, s, "expt", top, fix(2))
	wantLimit(t, s, "*", slices.Repeat([]uint64{top}, 4000)...)
}

// Numbers of more limbs may lie on a heap: what comes of them counts.
func TestLongNumbers(t *testing.T) {
	s := store(t, 20000)
	x, y := long(t, s, 0), long(t, s, 1)
	for name, args := range map[string][]uint64{"+": {x}, "-": {x}, "*": {x}, "abs": {y}, "min": {x}, "max": {y}, "gcd": {x, y}, "quotient": {x, fix(1)}, "expt": {x, fix(1)}} {
		wantLimit(t, s, name, args...)
	}
	wantLimit(t, s, "max", fix(1), x)
	for _, c := range []struct {
		name string
		args []uint64
		want uint64
	}{
		{"+", []uint64{x, y}, fix(0)}, {"-", []uint64{x, x}, fix(0)}, {"*", []uint64{x, fix(0)}, fix(0)}, {"quotient", []uint64{x, y}, fix(-1)}, {"remainder", []uint64{x, x}, fix(0)}, {"modulo", []uint64{x, fix(2)}, fix(0)}, {"min", []uint64{fix(1), x}, fix(1)}, {"max", []uint64{fix(1), y}, fix(1)}, {"gcd", []uint64{x, fix(8)}, fix(8)}, {"expt", []uint64{x, fix(0)}, fix(1)},
		{"=", []uint64{x, x}, True}, {"<", []uint64{y, x}, True}, {"even?", []uint64{x}, True}, {"number?", []uint64{x}, True}, {"eqv?", []uint64{x, y}, False},
	} {
		if r := do(t, s, c.name, c.args...); r != (come{c.want, "", api.Done}) {
			t.Errorf("%s: %+v", c.name, r)
		}
	}
	if b, _ := s.Bytes(do(t, s, "number->string", x).w); len(b) != 2467 {
		t.Errorf("%d digits", len(b))
	}
	wantWrong(t, s, "range", "expt", fix(1), x)
	wantWrong(t, s, "range", "list-tail", Empty, x)
}

func tenTo(n int) api.Num {
	power, _ := num.Power(num.Of(10), n, 10000)
	return power
}

// string->number of very many digits: more limbs than may be, or zeros ahead, or no number.
func TestDigits(t *testing.T) {
	s := store(t, api.MaxWords)
	text := func(b string) uint64 { return made(t)(s.Text([]byte(b))) }
	top := num.Text(most())
	for b, want := range map[string]api.Num{top: most(), "-" + top: num.Neg(most()), "+" + top: most(), strings.Repeat("0", 3000) + "7": num.Of(7), "-" + strings.Repeat("0", 1000000) + top: num.Neg(most()), strings.Repeat("0", 1000000): num.Of(0), "1" + strings.Repeat("0", 2466): tenTo(2466)} {
		r := do(t, s, "string->number", text(b))
		if n, ok := s.Num(r.w); r.how != api.Done || !ok || num.Cmp(n, want) != 0 {
			t.Errorf("%d digits: %+v", len(b), r)
		}
	}
	over := num.Text(num.Add(most(), num.Of(1)))
	for _, b := range []string{over, "-" + over, "000" + over, "11" + strings.Repeat("0", 2465), strings.Repeat("9", 2467), "-" + strings.Repeat("9", 2468), "1" + strings.Repeat("0", 2467), strings.Repeat("5", 1000000), "+" + strings.Repeat("7", 1000000)} {
		wantLimit(t, s, "string->number", text(b))
	}
	for _, b := range []string{strings.Repeat("9", 2468) + "a", "a" + strings.Repeat("9", 2468), "--" + strings.Repeat("9", 2468), strings.Repeat("9", 2000) + " " + strings.Repeat("9", 2000), strings.Repeat("7", 100000) + "-", "0-" + strings.Repeat("9", 3000), strings.Repeat("0", 5000) + "+" + over} {
		if c := do(t, s, "string->number", text(b)); c != (come{False, "", api.Done}) {
			t.Errorf("%d bytes: %+v", len(b), c)
		}
	}
}

// Where Equal does not end, it is Limit; what it comes to ahead of that is told.
func TestSteps(t *testing.T) {
	s := store(t, 500000)
	vectors := func(n int) (uint64, uint64) {
		return made(t)(s.Vector(slices.Repeat([]uint64{fix(1)}, n)...)), made(t)(s.Vector(slices.Repeat([]uint64{fix(1)}, n)...))
	}
	a, b := vectors(api.MaxSteps - 1)
	if c := do(t, s, "equal?", a, b); c != (come{True, "", api.Done}) {
		t.Errorf("%+v", c)
	}
	inLists := func(a uint64, more ...uint64) (uint64, uint64) {
		list := made(t)(s.List(append(more, a)...))
		var items []uint64
		for _, w := range append(more, a) {
			items = append(items, made(t)(s.Cons(w, Empty)))
		}
		return list, made(t)(s.List(items...))
	}
	list, items := inLists(b, fix(5))
	if c := do(t, s, "member", a, list); c.how != api.Done || c.w == False {
		t.Errorf("member: %+v", c)
	}
	if c := do(t, s, "assoc", a, items); c.how != api.Done || c.w == False {
		t.Errorf("assoc: %+v", c)
	}
	a, b = vectors(api.MaxSteps)
	list, items = inLists(b, fix(5))
	wantLimit(t, s, "equal?", a, b)
	wantLimit(t, s, "member", a, list)
	wantLimit(t, s, "assoc", a, items)
	list, items = inLists(b, a)
	if c := do(t, s, "member", a, list); c != (come{list, "", api.Done}) {
		t.Errorf("member: %+v", c)
	}
	first, _ := s.Get(items, 0)
	if c := do(t, s, "assoc", a, items); c != (come{first, "", api.Done}) {
		t.Errorf("assoc: %+v", c)
	}
	for _, name := range []string{"memq", "memv", "assq", "assv"} {
		_, items := inLists(b)
		if c := do(t, s, name, a, items); c != (come{False, "", api.Done}) {
			t.Errorf("%s: %+v", name, c)
		}
	}
	p, q := made(t)(s.Cons(fix(1), Empty)), made(t)(s.Cons(fix(1), Empty))
	s.Set(p, 1, p)
	s.Set(q, 1, q)
	wantLimit(t, s, "equal?", p, q)
	if c := do(t, s, "equal?", p, p); c.w != True {
		t.Errorf("%+v", c)
	}
}

// What is written has at most MaxSteps parts, and is at most MaxDepth deep.
func TestWritten(t *testing.T) {
	s := store(t, 200000)
	ones := func(n int) uint64 { return made(t)(s.Vector(slices.Repeat([]uint64{fix(1)}, n)...)) }
	deep := func(n int) uint64 {
		w := uint64(Empty)
		for range n {
			w = made(t)(s.Cons(w, Empty))
		}
		return w
	}
	for _, name := range []string{"write", "display"} {
		if c := do(t, s, name, ones(api.MaxSteps-1)); c.how != api.Done || c.w != Void || c.out != "#(1"+strings.Repeat(" 1", api.MaxSteps-2)+")" {
			t.Errorf("%s: %d", name, c.how)
		}
		if c := do(t, s, name, deep(api.MaxDepth-1)); c.how != api.Done || c.out != strings.Repeat("(", api.MaxDepth)+strings.Repeat(")", api.MaxDepth) {
			t.Errorf("%s: %d, %s", name, c.how, c.out)
		}
		wantLimit(t, s, name, ones(api.MaxSteps))
		wantLimit(t, s, name, deep(api.MaxDepth))
		p := made(t)(s.Cons(fix(1), Empty))
		s.Set(p, 1, p)
		wantLimit(t, s, name, p)
		s.Set(p, 0, p)
		s.Set(p, 1, Empty)
		wantLimit(t, s, name, p)
	}
}
