package prim_test

import (
	"slices"
	"testing"

	"tandem/api"
	"tandem/read"
	"tandem/show"
	"tandem/value"
)

// fill leaves so many words free on the heap.
func fill(t *testing.T, s *value.Store, free int) {
	t.Helper()
	made(t)(s.Alloc(20, 0, s.Size()-s.Used()-1-free))
}

// P12.3: how many words calls want, and that with one less they come to Room, with nothing turned; then they may be made again.
func TestRoom(t *testing.T) {
	for text, need := range map[string]int{
		"(cons 1 2)": 3, "(list 1 2 3)": 9, "(append (1 2) (3) 4)": 9, "(append (1) ())": 3, "(reverse (1 2))": 6, "(vector)": 1, "(vector 1 2)": 3, "(make-vector 5)": 6, "(make-vector 0 a)": 1, "(vector->list #(1 2))": 6, "(list->vector (1 2))": 3, "(list->vector ())": 1,
		"(string-append)": 2, `(string-append "abcdefgh" "i")`: 4, `(string-append "abcdefgh" "")`: 3, `(substring "abcdefghi" 0 9)`: 4, `(substring "abcdefghi" 1 9)`: 3, `(substring "abcdefghi" 9 9)`: 2, `(string->list "ab")`: 6, "(list->string (#\\a))": 3, "(list->string ())": 2,
		`(string->symbol "abc")`: 5, `(string->symbol "abcdefghi")`: 6, "(symbol->string a)": 3, "(number->string 123)": 3, "(number->string -99999999999999999999)": 5, `(string->number "99999999999999999999")`: 4, `(string->number "2305843009213693952")`: 3,
		"(+ 2305843009213693951 1)": 3, "(+ 99999999999999999999)": 4, "(- -2305843009213693952)": 3, "(- 99999999999999999999 5)": 4, "(* 4294967296 4294967296)": 4, "(max 99999999999999999999)": 4, "(min 99999999999999999999 999999999999999999999)": 4, "(abs -99999999999999999999)": 4, "(gcd 99999999999999999999)": 4, "(expt 2 100)": 4, "(expt 2 61)": 3, "(quotient 99999999999999999999 1)": 4, "(remainder 99999999999999999999 100000000000000000000)": 4, "(modulo -1 99999999999999999999)": 4,
		"(car 5)": 15, "(car)": 12, "(newline 1)": 15, "(quotient 1 0)": 18, "(condition-irritants 1)": 17, "(vector-ref #(1) 1)": 19, "(make-vector -1)": 16, "(write)": 12, "(write-char 1)": 16, "(list->string (1))": 16,
	} {
		for free := range need + 2 {
			s := store(t, 1000)
			name, args := words(t, s, text)
			fill(t, s, free)
			was := s.Words()
			c := do(t, s, name, args...)
			if now := s.Words(); !slices.Equal(now[:len(was)], was) || c.how != api.Room && len(now) != len(was)+need {
				t.Errorf("%s with %d: used %d, then %d", text, free, len(was), len(now))
			}
			if enough := c.how <= api.Wrong; enough != (free >= need) || !enough && c.how != api.Room {
				t.Errorf("%s with %d: %+v", text, free, c)
			}
			want := store(t, 1000)
			wanted := call(t, want, text)
			args = s.Keep(args...)
			if again := do(t, s, name, args...); again.how != wanted.how || written(t, s, again.w) != written(t, want, wanted.w) {
				t.Errorf("%s again: %+v", text, again)
			}
		}
	}
}

// What wants no room is done on a full heap.
func TestNoRoomWanted(t *testing.T) {
	all, _, _ := read.All(`(+) (+ 1 2) (- 5) (- 5 3) (*) (* 2 3) (= 1 1) (< 1 2) (> 1 2) (<= 1 2) (>= 1 2) (quotient 7 2) (remainder 7 2) (modulo 7 2) (abs -1) (min 1 2) (max 1 2) (gcd) (gcd 4 6) (expt 2 60) (quotient 99999999999999999999 99999999999999999999) (zero? 99999999999999999999) (positive? 1) (negative? 1) (odd? 1) (even? 1) (number? 1) (string->number "12") (string->number "x") (eq? 1 1) (eqv? 1 2) (equal? (1) (1)) (not 1) (boolean? 1) (null? 1) (pair? 1) (list? (1)) (symbol? a) (string? "a") (char? 1) (vector? 1) (procedure? 1) (car (1)) (cdr (1)) (set-car! (1) 2) (set-cdr! (1) 2) (list) (length (1)) (append) (append 5) (append () () (1)) (reverse ()) (list-ref (1) 0) (list-tail (1) 1) (memq a (a)) (memv 1 (2)) (member (1) ((1))) (assq a ((a))) (assv 1 ()) (assoc (1) (((1)))) (vector-length #(1)) (vector-ref #(1) 0) (vector-set! #(1) 0 2) (vector->list #()) (vector-fill! #(1) 2) (string-length "a") (string-ref "a" 0) (string=? "a" "a") (string<? "a" "a") (string->list "") (char->integer #\a) (integer->char 65) (char=? #\a #\a) (char<? #\a #\a) (write (1 "a")) (display (1 "a")) (newline) (write-char #\a) (condition? 1) (void) (void 1)`)
	for _, d := range all {
		text := show.Write(d)
		s := store(t, 1000)
		name, args := words(t, s, text)
		fill(t, s, 0)
		if c := do(t, s, name, args...); c.how != api.Done {
			t.Errorf("%s: %+v", text, c)
		}
	}
	s := store(t, 100)
	a := made(t)(s.Text([]byte("a")))
	made(t)(s.Intern("a"))
	fill(t, s, 0)
	if c := do(t, s, "string->symbol", a); c.how != api.Done {
		t.Errorf("string->symbol: %+v", c)
	}
}

// More than any heap has, of few arguments.
func TestTooMuchForAnyHeap(t *testing.T) {
	s := store(t, api.MaxWords)
	if c := do(t, s, "make-vector", fix(api.MaxWords)); c.how != api.Room || s.Used() != 1 {
		t.Errorf("make-vector: %+v", c)
	}
	list := made(t)(s.List(slices.Repeat([]uint64{fix(1)}, 100000)...))
	text := made(t)(s.Text(make([]byte, 2000000)))
	was := s.Used()
	if c := do(t, s, "append", slices.Repeat([]uint64{list}, 1000)...); c.how != api.Room {
		t.Errorf("append: %+v", c)
	}
	if c := do(t, s, "string-append", slices.Repeat([]uint64{text}, 10000)...); c.how != api.Room {
		t.Errorf("string-append: %+v", c)
	}
	if s.Used() != was {
		t.Error("something was laid")
	}
	if c := do(t, s, "make-vector", fix(api.MaxWords-was-1)); c.how != api.Done || s.Used() != api.MaxWords {
		t.Errorf("make-vector: %+v", c)
	}
}
