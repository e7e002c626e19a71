package prim_test

import (
	"testing"

	"tandem/api"
)

// What is made is a new object each time, though it be the same as an argument, or have nothing in it.
func TestNew(t *testing.T) {
	for _, text := range []string{
		"(+ 99999999999999999999)", "(+ 99999999999999999999 0)", "(- 99999999999999999999)", "(- 99999999999999999999 0)", "(* 99999999999999999999)", "(* 99999999999999999999 1)", "(quotient 99999999999999999999 1)", "(remainder 99999999999999999999 999999999999999999999)", "(modulo 99999999999999999999 999999999999999999999)", "(abs 99999999999999999999)", "(min 99999999999999999999)", "(max 99999999999999999999)", "(max 1 99999999999999999999)", "(gcd 99999999999999999999)", "(expt 99999999999999999999 1)", `(string->number "99999999999999999999")`,
		"(cons 1 2)", "(list 1)", "(append (1) ())", "(append (1) 2)", "(reverse (1))", "(vector)", "(vector 1)", "(make-vector 0)", "(make-vector 1)", "(vector->list #(1))", "(list->vector ())", "(list->vector (1))",
		"(string-append)", `(string-append "")`, `(string-append "abc")`, `(substring "abc" 0 3)`, `(substring "abc" 1 1)`, `(string->list "a")`, "(list->string ())", "(list->string (#\\a))", "(symbol->string a)", "(number->string 1)",
	} {
		s := store(t, 1000)
		name, args := words(t, s, text)
		for range 2 {
			was := uint64(s.Used()) * 4
			if c := do(t, s, name, args...); c.how != api.Done || !s.Is(c.w) || c.w < was {
				t.Errorf("%s: %+v", text, c)
			}
		}
	}
}

// What is told of what was handed in is itself.
func TestParts(t *testing.T) {
	s := store(t, 1000)
	big := put(t, s, "99999999999999999999")
	end := made(t)(s.Cons(big, Empty))
	list := made(t)(s.Cons(fix(1), end))
	item := made(t)(s.Cons(big, end))
	items := made(t)(s.List(list, item))
	vector := made(t)(s.Vector(big, end))
	a := made(t)(s.Intern("a"))
	name, _ := s.Get(a, 0)
	for _, c := range []struct {
		name string
		args []uint64
		want uint64
	}{
		{"car", []uint64{end}, big}, {"cdr", []uint64{list}, end}, {"list-tail", []uint64{list, fix(1)}, end}, {"list-tail", []uint64{list, fix(0)}, list}, {"list-ref", []uint64{list, fix(1)}, big}, {"append", []uint64{list}, list}, {"append", []uint64{big}, big}, {"append", []uint64{Empty, Empty, end}, end},
		{"memq", []uint64{big, list}, end}, {"memv", []uint64{big, list}, end}, {"member", []uint64{big, list}, end}, {"assq", []uint64{big, items}, item}, {"assv", []uint64{big, items}, item}, {"assoc", []uint64{big, items}, item},
		{"vector-ref", []uint64{vector, fix(0)}, big}, {"vector-ref", []uint64{vector, fix(1)}, end}, {"string->symbol", []uint64{name}, a},
	} {
		was := s.Used()
		if r := do(t, s, c.name, c.args...); r != (come{c.want, "", api.Done}) || s.Used() != was {
			t.Errorf("%s: %+v", c.name, r)
		}
	}
	tail := do(t, s, "append", list, end)
	if got, _ := s.Get(do(t, s, "list-tail", tail.w, fix(2)).w, 1); got != Empty {
		t.Error("append")
	}
	if got := do(t, s, "list-tail", tail.w, fix(2)).w; got != end {
		t.Error("append's last argument was copied")
	}
	if got := do(t, s, "symbol->string", a).w; got == name {
		t.Error("symbol->string tells the symbol's own text")
	}
}

// P12.4: those that turn something turn just that.
func TestTurned(t *testing.T) {
	s := store(t, 1000)
	pair := made(t)(s.Cons(fix(1), fix(2)))
	vector := made(t)(s.Vector(fix(1), fix(2), fix(3)))
	text := made(t)(s.Text([]byte("x")))
	for _, c := range []struct {
		name  string
		args  []uint64
		first uint64 // the place of the first word that is turned
		count uint64
	}{
		{"set-car!", []uint64{pair, text}, pair/4 + 1, 1}, {"set-cdr!", []uint64{pair, pair}, pair/4 + 2, 1}, {"set-cdr!", []uint64{pair, fix(9)}, pair/4 + 2, 1},
		{"vector-set!", []uint64{vector, fix(0), vector}, vector/4 + 1, 1}, {"vector-set!", []uint64{vector, fix(2), text}, vector/4 + 3, 1}, {"vector-fill!", []uint64{vector, text}, vector/4 + 1, 3}, {"vector-fill!", []uint64{vector, 3}, vector/4 + 1, 3}, {"set-car!", []uint64{pair, 0}, pair/4 + 1, 1},
	} {
		want := s.Words()
		w := c.args[len(c.args)-1]
		if w == 3 || w == 0 {
			w = Void
		}
		for i := range c.count {
			want[c.first+i] = w
		}
		if r := do(t, s, c.name, c.args...); r != (come{Void, "", api.Done}) {
			t.Errorf("%s: %+v", c.name, r)
		}
		wantWords(t, s, want)
	}
}
