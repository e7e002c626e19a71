package show_test

import (
	"reflect"
	"strings"
	"testing"

	"tandem/api"
	"tandem/num"
	"tandem/read"
	"tandem/show"
)

// bare is a datum without the difference of nil and an empty list.
func bare(d api.Datum) api.Datum {
	d.Items, d.Rest = bareAll(d.Items), bareAll(d.Rest)
	if len(d.Num.Mag) == 0 {
		d.Num.Mag = nil
	}
	return d
}

func bareAll(l []api.Datum) []api.Datum {
	var all []api.Datum
	for _, d := range l {
		all = append(all, bare(d))
	}
	return all
}

// wantsBack wants data to be read again, from what is written of them.
func wantsBack(t *testing.T, data ...api.Datum) {
	t.Helper()
	text := ""
	for _, d := range data {
		s := show.Write(d)
		got, next, e := read.One(s, 0)
		if e != api.OK || next != len(s) || !reflect.DeepEqual(bare(got), bare(d)) {
			t.Fatalf("%.300q is read as %+v to %d, error %d", s, got, next, e)
		}
		text += s + " "
	}
	got, _, e := read.All(text)
	if e != api.OK || !reflect.DeepEqual(bareAll(got), bareAll(data)) {
		t.Fatalf("%.300q is read as %+v, error %d", text, got, e)
	}
}

// wantsTextBack wants the data of a text, if they can be read, to be read again from what is written of them.
func wantsTextBack(t *testing.T, s string) {
	t.Helper()
	if data, _, e := read.All(s); e == api.OK {
		wantsBack(t, data...)
	}
}

// P6.3, of data that read can make.
func TestReadAgain(t *testing.T) {
	for seed := range 10000 {
		d := dice(seed + 1)
		wantsBack(t, d.readable(1+seed%6))
		wantsBack(t, d.row(4, 0)...)
	}
}

// P6.3: each character, each byte of a text; each byte that may stand in a symbol.
func TestEachByteAgain(t *testing.T) {
	var all []api.Datum
	for b := range 256 {
		s := string([]byte{byte(b)})
		wantsBack(t, letter(b), text(s), text(s+s), text("a"+s+"b"), text(s+";"), text(`\`+s), text("\x01"+s))
		wantsBack(t, list(letter(b)), dotted(letter(b), letter(b)), vector(letter(b), symbol("a")))
		wantsTextBack(t, s)
		wantsTextBack(t, "a"+s)
		wantsTextBack(t, s+s)
		all = append(all, letter(b), text(s))
	}
	wantsBack(t, all...)
	wantsBack(t, list(all...), vector(all...))
}

// P6.3, of what is read of all short texts of the bytes that mean something.
func TestShortTextsAgain(t *testing.T) {
	const meaning = "()'`,@.#;|\"\\ \nax1-t"
	var grow func(s string, more int)
	grow = func(s string, more int) {
		wantsTextBack(t, s)
		if more > 0 {
			for i := range len(meaning) {
				grow(s+meaning[i:i+1], more-1)
			}
		}
	}
	grow("", 4)
}

// P6.3: as deep as can be read, and long ones.
func TestDeepAndLongAgain(t *testing.T) {
	for _, around := range []func(api.Datum) api.Datum{
		func(d api.Datum) api.Datum { return list(d) },
		func(d api.Datum) api.Datum { return vector(d) },
		func(d api.Datum) api.Datum { return dotted(symbol("b"), symbol("a"), d) },
		func(d api.Datum) api.Datum { return list(symbol("quote"), d) },
	} {
		d := whole(5)
		for range api.MaxDepth {
			d = around(d)
		}
		wantsBack(t, d)
	}
	wantsTextBack(t, strings.Repeat("'", api.MaxDepth)+"a")
	wantsTextBack(t, strings.Repeat("(a . ", api.MaxDepth)+"b"+strings.Repeat(")", api.MaxDepth))
	wantsTextBack(t, strings.Repeat("9", api.MaxText/2))
	wantsTextBack(t, strings.Repeat("a", api.MaxText-1))
	wantsTextBack(t, `"`+strings.Repeat("a", api.MaxText-3)+`"`)
	wantsTextBack(t, "("+strings.Repeat("1 ", api.MaxText/2-2)+")")
	power, _ := num.Power(num.Of(-2), 8191, 8192)
	wantsBack(t, integer(power))
}

// What is written once is written so again, once it was read.
func TestWrittenTwice(t *testing.T) {
	for seed := range 2000 {
		d := dice(seed + 1)
		first := show.Write(d.readable(5))
		x, _, _ := read.One(first, 0)
		if second := show.Write(x); second != first {
			t.Fatalf("%q, then %q", first, second)
		}
	}
}
