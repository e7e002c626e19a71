package read_test

import (
	"reflect"
	"strings"
	"testing"
	"unsafe"

	"tandem/api"
	"tandem/read"
)

// R1, R2: nothing panics at any bytes, and what is refused brings nothing along.
func TestAnyBytes(t *testing.T) {
	const likely = "()()'`,@.#;|\"\\ \n\tabcx019-+ft"
	for seed := range 3000 {
		d := dice(seed + 1)
		b := make([]byte, d.below(60))
		for i := range b {
			b[i] = likely[d.below(len(likely))]
			if d.below(20) == 0 {
				b[i] = byte(d.below(256))
			}
		}
		s := string(b)
		data, at, e := read.All(s)
		if e == api.OK && at != 0 || e != api.OK && (len(data) != 0 || at < 0 || at > len(s)) {
			t.Fatalf("All(%q): %+v, error %d at %d", s, data, e, at)
		}
		for from := -1; from <= len(s)+1; from++ {
			x, next, e := read.One(s, from)
			if next < 0 || next > len(s) || e == api.OK && (next <= from || x.Kind == 0) || e != api.OK && !reflect.DeepEqual(x, api.Datum{}) {
				t.Fatalf("One(%q, %d): %+v to %d, error %d", s, from, x, next, e)
			}
		}
	}
}

// R1: as much as a text can hold of one thing, and no end of it.
func TestMuchOfOneThing(t *testing.T) {
	half, quarter := api.MaxText/2, api.MaxText/4
	wantWrong(t, strings.Repeat("#;", half), api.MaxText, api.ErrEnd)
	wantWrong(t, strings.Repeat("#|", half), api.MaxText, api.ErrEnd)
	wantAll(t, strings.Repeat("#;", quarter)+strings.Repeat("a ", quarter))
	wantAll(t, strings.Repeat("#|", quarter)+strings.Repeat("|#", quarter))
	wantAll(t, strings.Repeat(";\n", half))
	wantAll(t, "\""+strings.Repeat(`\n`, half-1)+"\"", text(strings.Repeat("\n", half-1)))
	wantWrong(t, strings.Repeat("a", api.MaxText-1)+"#", 0, api.ErrToken)
	wantWrong(t, strings.Repeat("1", api.MaxText-1)+"#", 0, api.ErrToken)
	wantWrong(t, `#\`+strings.Repeat("x", api.MaxText-2), 0, api.ErrChar)
	long := make([]api.Datum, half-1)
	for i := range long {
		long[i] = whole(1)
	}
	wantAll(t, "("+strings.Repeat("1 ", half-1)+")", list(long...))
	wantAll(t, "#("+strings.Repeat("1 ", half-2)+")", vector(long[1:]...))
}

const manyThings = "(a b . (c \"text\" . #(d 99999999999999999999))) 'a `(b ,c ,@d) #(1 2 (3 4)) (a . b) \"long enough\" symbol-of-some-length 123456789012345678901234567890"

// R3: no two lists of an answer share memory, spare room too, and a second answer shares none with the first.
func TestAnswersAreNew(t *testing.T) {
	first, _, _ := read.All(manyThings)
	second, _, e := read.All(manyThings)
	if e != api.OK || !reflect.DeepEqual(first, second) {
		t.Fatalf("%+v, then %+v", first, second)
	}
	data, limbs := map[*api.Datum]bool{}, map[*uint32]bool{}
	var walk func(l []api.Datum)
	walk = func(l []api.Datum) {
		for i := range l[:cap(l)] {
			if p := &l[:cap(l)][i]; data[p] {
				t.Fatal("two lists share memory")
			} else {
				data[p] = true
			}
		}
		for _, d := range l {
			for i := range d.Num.Mag[:cap(d.Num.Mag)] {
				if p := &d.Num.Mag[:cap(d.Num.Mag)][i]; limbs[p] {
					t.Fatal("two numbers share memory")
				} else {
					limbs[p] = true
				}
			}
			walk(d.Items)
			walk(d.Rest)
		}
	}
	walk(first)
	walk(second)
}

// A text that is handed in is not kept, not even a piece of it.
func TestTextIsNotKept(t *testing.T) {
	s := strings.Clone(manyThings)
	from := uintptr(unsafe.Pointer(unsafe.StringData(s)))
	data, _, _ := read.All(s)
	var walk func(l []api.Datum)
	walk = func(l []api.Datum) {
		for _, d := range l {
			if p := uintptr(unsafe.Pointer(unsafe.StringData(d.Text))); d.Text != "" && p >= from && p < from+uintptr(len(s)) {
				t.Fatalf("%q is a piece of the text", d.Text)
			}
			walk(d.Items)
			walk(d.Rest)
		}
	}
	walk(data)
}

// R2: each kind has its own fields, and no others.
func TestFieldsOfKinds(t *testing.T) {
	want := []api.Datum{
		{Kind: api.Int, Num: api.Num{Neg: true, Mag: []uint32{5}}},
		{Kind: api.Int},
		{Kind: api.Bool, N: 1},
		{Kind: api.Bool},
		{Kind: api.Char, N: 97},
		{Kind: api.String, Text: "a"},
		{Kind: api.Symbol, Text: "a"},
		{Kind: api.List},
		{Kind: api.Vector},
		{Kind: api.List, Items: []api.Datum{{Kind: api.Bool}}, Rest: []api.Datum{{Kind: api.Bool, N: 1}}},
	}
	wantAll(t, `-5 -0 #t #f #\a "a" a () #() (#f . #t)`, want...)
}

// R4: other calls turn nothing.
func TestSameAgain(t *testing.T) {
	for _, s := range []string{manyThings, "(a", strings.Repeat("(", 101), "#;", "\"\\q"} {
		first, at, e := read.All(s)
		for _, other := range []string{strings.Repeat("(", 100), "#;#;", ")", "a"} {
			read.All(other)
			read.One(other, 0)
			second, again, errno := read.All(s)
			if !reflect.DeepEqual(first, second) || at != again || e != errno {
				t.Fatalf("%q: %+v, error %d at %d, then %+v, %d at %d", preview(s), first, e, at, second, errno, again)
			}
		}
	}
}
