package read_test

import (
	"reflect"
	"strings"
	"testing"

	"tandem/api"
	"tandem/read"
)

// P5.3: a datum is read again in each way in which it may be written, with blanks wherever they may stand.
func TestWrittenAnyWay(t *testing.T) {
	for seed := range 4000 {
		d := dice(seed + 1)
		x := d.datum(5)
		for range 3 {
			wantAll(t, d.loose(1)+d.written(x, 1)+d.loose(1), x)
		}
		data := d.data(4, 0)
		wantAll(t, d.row(data, 1), data...)
	}
}

// P5.3: what is read does not hang on what stands behind it.
func TestWhatStandsBehind(t *testing.T) {
	behind := []string{"", " ", ")", "(", "\"", ";", "'", "\n1a", " #foo", "\t#|", " . ", " #\\", ") )", "\"\\q", " \x80"}
	for seed := range 1000 {
		d := dice(seed + 1)
		x := d.datum(5)
		s := d.loose(1) + d.written(x, 1)
		for _, tail := range behind {
			got, next, e := read.One(s+tail, 0)
			if e != api.OK || next != len(s) || !reflect.DeepEqual(bare(got), bare(x)) {
				t.Fatalf("One(%q and %q): %+v to %d, error %d", s, tail, got, next, e)
			}
		}
	}
}

// P5.3: what is read does not hang on blanks ahead of it, nor on where it begins.
func TestWhatStandsAhead(t *testing.T) {
	for seed := range 1000 {
		d := dice(seed + 1)
		x := d.datum(5)
		s := d.written(x, 1)
		for _, ahead := range []string{"", " ", "\t\r\n", ";(\n", "#|)|#", "#;a ", "#;#;(b)(c)", "\n#| #| |# |# ; \"\n"} {
			got, next, e := read.One(ahead+s, 0)
			if e != api.OK || next != len(ahead)+len(s) || !reflect.DeepEqual(bare(got), bare(x)) {
				t.Fatalf("One(%q and %q): %+v to %d, error %d", ahead, s, got, next, e)
			}
		}
		for _, ahead := range []string{"(", ")", "\"", "a", "#", "#\\", "#|", ";"} {
			got, next, e := read.One(ahead+s, len(ahead))
			if e != api.OK || next != len(ahead)+len(s) || !reflect.DeepEqual(bare(got), bare(x)) {
				t.Fatalf("One(%q and %q, %d): %+v to %d, error %d", ahead, s, len(ahead), got, next, e)
			}
		}
	}
}

// P5.3: of a datum that is not whole yet, or that is wrong, the same is told whatever blanks stand ahead of it.
func TestWrongBehindBlanks(t *testing.T) {
	for _, s := range []string{"(a", ")", "1a", "#\\ab", "\"\\q\"", "\"", ".", "(a . b c)", strings.Repeat("'", 101), "#(a . b)"} {
		_, at, e := read.One(s, 0)
		for _, ahead := range []string{" ", "\r\n", ";(\n", "#|)|#", "#;a "} {
			wantWrong(t, ahead+s, len(ahead)+at, e)
		}
	}
}
