package prim_test

import (
	"slices"
	"strings"
	"testing"

	"tandem/api"
	"tandem/value"
)

// P12.3: which class of condition calls come to.
func TestWrong(t *testing.T) {
	for class, calls := range map[string][]string{
		"type": {
			"(+ a)", "(+ 1 a)", "(+ a 1)", "(- a)", "(- 1 a)", "(* a)", "(* 0 a)", `(* "1")`, "(= a)", "(= 1 a)", "(= 1 2 a)", "(< 2 1 a)", "(> 1 2 a)", "(<= 2 1 a)", "(>= 1 2 a)",
			"(quotient a 1)", "(quotient 1 a)", "(quotient a 0)", "(remainder a 0)", "(remainder 1 a)", "(modulo a 0)", "(modulo 1 a)", "(abs a)", "(min a)", "(min 1 a)", "(max a 1)", "(max #\\a)", "(gcd a)", "(gcd 1 a)", "(expt a 1)", "(expt 1 a)", "(expt a -1)", "(expt a 99999999999999999999)",
			"(zero? a)", "(positive? a)", "(negative? a)", "(odd? a)", "(even? a)", "(number->string a)", `(number->string "1")`, "(string->number 5)", "(string->number a)",
			"(car 5)", "(car ())", "(car #(1 2))", "(cdr ())", "(cdr a)", "(set-car! () 1)", "(set-cdr! a 1)",
			"(length 5)", "(length (1 . 2))", "(length #(1))", "(append 1 2)", "(append (1 . 2) 3)", "(append (1) 2 3)", "(append () a ())", "(reverse 5)", "(reverse (1 2 . 3))",
			"(list-ref (a) b)", "(list-ref 5 a)", "(list-tail (a) b)", "(list-tail () ())",
			"(memq x 5)", "(memq x (a . b))", "(memq x (a . x))", "(memv x 5)", "(memv x (a . b))", "(member x 5)", "(member x (a . b))",
			"(assq x 5)", "(assq x (a))", "(assq x ((a) . b))", "(assq x ((a) b (x)))", "(assv x (a))", "(assv x ((a) . b))", "(assoc x 5)", "(assoc x (()))", "(assoc x ((a) . b))",
			"(make-vector a)", "(make-vector a 1)", "(make-vector (1) 1)", "(vector-length (a))", "(vector-ref (a) 0)", "(vector-ref #(a) x)", "(vector-ref a -1)", "(vector-set! (a) 0 1)", "(vector-set! #(a) x 1)", "(vector-set! (a) 9 1)", "(vector->list ())", "(vector->list (1))", "(list->vector 5)", "(list->vector (1 . 2))", "(list->vector #(1))", "(vector-fill! (1) 2)",
			"(string-length a)", "(string-ref a 0)", `(string-ref "a" a)`, "(string-ref a 9)", "(string-append 1)", `(string-append "a" 1)`, `(string-append "a" b "c")`, "(substring a 0 0)", `(substring "abc" a 4)`, `(substring "abc" 9 a)`, "(substring a 9 0)",
			`(string=? "a" b)`, `(string=? a "b")`, `(string<? "a" b)`, `(string<? 1 "b")`, "(string->list a)", "(string->list (#\\a))", "(list->string 5)", `(list->string "a")`, "(list->string (#\\a b))", "(list->string (#\\a . b))", "(list->string (97))", "(list->string (#\\a . #\\b))",
			"(string->symbol a)", `(symbol->string "a")`, "(char->integer 65)", `(char->integer "a")`, "(integer->char a)", "(integer->char #\\a)", "(char=? #\\a 97)", "(char=? 97 #\\a)", `(char<? #\a "b")`, "(char<? 1 2)", "(write-char 1)", `(write-char "a")`,
			"(condition-class 1)", "(condition-message #(1 2 3))", "(condition-irritants ())",
		},
		"range": {
			"(expt 2 -1)", "(expt 0 -1)", "(expt 1 2305843009213693952)", "(expt 2 -99999999999999999999)",
			"(list-ref (a) 1)", "(list-ref () 0)", "(list-ref 5 0)", "(list-ref (a . b) 1)", "(list-ref (a) -1)", "(list-ref (a) 99999999999999999999)", "(list-ref (a) 2305843009213693951)", "(list-ref (a) -99999999999999999999)",
			"(list-tail (a) 2)", "(list-tail 5 1)", "(list-tail (a . b) 2)", "(list-tail (a) -1)", "(list-tail (a) 99999999999999999999)",
			"(make-vector -1)", "(make-vector 1048577)", "(make-vector 99999999999999999999)", "(make-vector -99999999999999999999 a)", "(make-vector 2305843009213693951)", "(make-vector -2305843009213693952)",
			"(vector-ref #(a) 1)", "(vector-ref #() 0)", "(vector-ref #(a) -1)", "(vector-ref #(a) 99999999999999999999)", "(vector-set! #(a) 1 0)", "(vector-set! #(a) -1 0)", "(vector-set! #() 0 0)", "(vector-set! #(a) 18446744073709551616 0)",
			`(string-ref "a" 1)`, `(string-ref "" 0)`, `(string-ref "a" -1)`, `(string-ref "a" 99999999999999999999)`, `(string-ref "abc" 7)`,
			`(substring "abc" 2 1)`, `(substring "abc" 0 4)`, `(substring "abc" -1 2)`, `(substring "abc" 4 4)`, `(substring "abc" 0 99999999999999999999)`, `(substring "abc" 99999999999999999999 3)`, `(substring "abc" 0 -1)`,
			"(integer->char 256)", "(integer->char -1)", "(integer->char 99999999999999999999)", "(integer->char 4294967361)",
		},
		"divide": {"(quotient 1 0)", "(remainder 1 0)", "(modulo 1 0)", "(quotient 0 0)", "(modulo 99999999999999999999 0)", "(remainder -99999999999999999999 0)"},
	} {
		for _, text := range calls {
			s := store(t, 1000)
			name, args := words(t, s, text)
			wantWrong(t, s, class, name, args...)
		}
	}
}

// Too few or too many arguments, whatever they are, come ahead of all else.
func TestArity(t *testing.T) {
	for _, p := range doable() {
		s := store(t, 10000)
		symbol := made(t)(s.Intern("a"))
		for count := range 8 {
			if count >= p.Least && (count <= p.Most || p.Most < 0) {
				continue
			}
			for _, w := range []uint64{symbol, fix(0), made(t)(s.List(fix(1))), made(t)(s.Vector()), made(t)(s.Text(nil))} {
				wantWrong(t, s, "arity", p.Name, slices.Repeat([]uint64{w}, count)...)
			}
		}
	}
}

// As many arguments as one likes, where any number is taken.
func TestManyArguments(t *testing.T) {
	s := store(t, 20000)
	ones := slices.Repeat([]uint64{fix(1)}, 3000)
	text := slices.Repeat([]uint64{made(t)(s.Text([]byte("ab")))}, 3000)
	lists := slices.Repeat([]uint64{Empty}, 3000)
	for name, want := range map[string]uint64{"+": fix(3000), "-": fix(-2998), "*": fix(1), "=": True, "<": False, ">": False, "<=": True, ">=": True, "min": fix(1), "max": fix(1), "gcd": fix(1), "void": Void} {
		if c := do(t, s, name, ones...); c != (come{want, "", api.Done}) {
			t.Errorf("%s: %+v", name, c)
		}
	}
	if c := do(t, s, "append", lists...); c != (come{Empty, "", api.Done}) {
		t.Errorf("append: %+v", c)
	}
	if b, _ := s.Bytes(do(t, s, "string-append", text...).w); string(b) != strings.Repeat("ab", 3000) {
		t.Error("string-append")
	}
	if n := s.Tagged(do(t, s, "vector", ones...).w); n != 3000 {
		t.Errorf("vector: %d", n)
	}
	if c := do(t, s, "length", do(t, s, "list", ones...).w); c.w != fix(3000) {
		t.Errorf("list: %+v", c)
	}
	wantWrong(t, s, "type", "+", append(slices.Clone(ones[:64]), True)...)
}

// shapes are objects that have the kind of a value, and not its fields.
func shapes(t *testing.T, s *value.Store) map[int][]uint64 {
	text := made(t)(s.Text([]byte("a")))
	return map[int][]uint64{
		Pair:      {object(t, s, Pair, []uint64{fix(1)}, nil), object(t, s, Pair, []uint64{fix(1), Empty, Empty}, nil), object(t, s, Pair, []uint64{fix(1), Empty}, []uint64{0}), object(t, s, Pair, nil, nil)},
		Vector:    {object(t, s, Vector, []uint64{fix(1)}, []uint64{0}), object(t, s, Vector, nil, []uint64{0, 0})},
		Text:      {object(t, s, Text, nil, nil), object(t, s, Text, nil, []uint64{1}), object(t, s, Text, nil, []uint64{0, 0}), object(t, s, Text, nil, []uint64{1, 0x4141}), object(t, s, Text, nil, []uint64{1<<64 - 1, 0}), object(t, s, Text, nil, []uint64{1 << 63}), object(t, s, Text, nil, []uint64{1<<64 - 1}), object(t, s, Text, nil, []uint64{1<<64 - 8}), object(t, s, Text, []uint64{False}, []uint64{0}), object(t, s, Text, nil, []uint64{9, 5, 1 << 8})},
		Symbol:    {object(t, s, Symbol, nil, nil), object(t, s, Symbol, []uint64{fix(1)}, nil), object(t, s, Symbol, []uint64{text, text}, nil), object(t, s, Symbol, []uint64{text}, []uint64{0})},
		Number:    {object(t, s, Number, nil, nil), object(t, s, Number, nil, []uint64{0, 1}), object(t, s, Number, nil, []uint64{2, 1 << 62}), object(t, s, Number, nil, []uint64{0, 1 << 62, 0}), object(t, s, Number, []uint64{False}, []uint64{0, 1 << 62}), object(t, s, Number, nil, []uint64{1, 1 << 61})},
		Closure:   {object(t, s, Closure, nil, nil), object(t, s, Closure, []uint64{fix(1)}, []uint64{1, 2})},
		Condition: {object(t, s, Condition, []uint64{text, text}, nil), object(t, s, Condition, []uint64{text, text, Empty, Empty}, nil), object(t, s, Condition, []uint64{text, text, Empty}, []uint64{0})},
		20:        {object(t, s, 20, []uint64{fix(1), Empty}, nil)},
		63:        {object(t, s, 63, nil, []uint64{0})},
	}
}

// An object is a value of a kind only with just its fields.
func TestShapes(t *testing.T) {
	s := store(t, 100000)
	for _, all := range shapes(t, s) {
		for _, w := range all {
			wantNoValue(t, s, w)
		}
	}
}

func wantNoValue(t *testing.T, s *value.Store, w uint64) {
	t.Helper()
	for name := range strings.FieldsSeq("pair? vector? string? symbol? number? procedure? condition? list? char? boolean? null? not") {
		if c := do(t, s, name, w); c != (come{False, "", api.Done}) {
			t.Errorf("%s of kind %d: %+v", name, s.Kind(w), c)
		}
	}
	for name := range strings.FieldsSeq("car cdr length reverse list->vector list->string vector-length vector->list string-length string->list string->symbol string->number symbol->string number->string abs + - zero? odd? condition-class condition-message condition-irritants char->integer integer->char make-vector write-char") {
		wantWrong(t, s, "type", name, w)
	}
	for name := range strings.FieldsSeq("set-car! set-cdr! vector-ref vector-fill! string-ref string=? string<? append quotient expt") {
		wantWrong(t, s, "type", name, w, fix(0))
	}
	wantWrong(t, s, "range", "list-ref", w, fix(0))
	wantWrong(t, s, "type", "memq", fix(1), w)
	wantWrong(t, s, "type", "assq", fix(1), made(t)(s.List(w)))
	if c := do(t, s, "display", w); c != (come{Void, "#<void>", api.Done}) {
		t.Errorf("kind %d: %+v", s.Kind(w), c)
	}
}

// Immediates that look like characters, and are none.
func TestNoCharacters(t *testing.T) {
	s := store(t, 1000)
	for _, w := range []uint64{256<<8 | 22, 1<<63 | 22, 65<<8 | 18, 65<<8 | 30, 65<<8 | 26, char(65) | 1<<16, 65<<8 | 6} {
		if c := do(t, s, "char?", w); c.w != False {
			t.Errorf("%d: %+v", w, c)
		}
		wantWrong(t, s, "type", "char->integer", w)
		wantWrong(t, s, "type", "write-char", w)
		wantWrong(t, s, "type", "list->string", made(t)(s.List(w)))
		wantWrong(t, s, "type", "char=?", w, char(65))
		wantWrong(t, s, "type", "char<?", char(65), w)
		s.Keep()
	}
}
