package show_test

import (
	"reflect"
	"runtime/debug"
	"strings"
	"testing"
	"unsafe"

	"tandem/api"
	"tandem/show"
)

// much is a datum with all kinds in it, and with spare room in its lists.
func much() api.Datum {
	spare := api.Datum{Kind: api.Int, N: 77, Text: "spare"}
	items := []api.Datum{
		text("a long enough text\n"), symbol("symbol-of-some-length"), letter('c'), boolean(1),
		{Kind: api.Int, Num: api.Num{Neg: true, Mag: []uint32{1, 2, 3, 0, 9}[:4]}},
		condition("type", text("car"), list(text("x"))), vector(list(), whole(7)), {Kind: api.Void}, {Kind: api.Proc, Text: "f"}, spare,
	}
	return api.Datum{Kind: api.List, N: 5, Text: "x", Items: items[:9], Rest: []api.Datum{dotted(text("b"), letter('a')), spare, spare}[:2]}
}

// R3: what is handed in stays as it is, spare room included.
func TestDataStay(t *testing.T) {
	d := much()
	show.Write(d)
	show.Display(d)
	want := much()
	if !reflect.DeepEqual(d, want) || !reflect.DeepEqual(d.Items[:10], want.Items[:10]) || !reflect.DeepEqual(d.Rest[:3], want.Rest[:3]) || d.Items[4].Num.Mag[:5][4] != 9 {
		t.Fatalf("%+v", d)
	}
}

// R3: what was answered does not hang on what becomes of the lists that were handed in.
func TestDataAreNotKept(t *testing.T) {
	d := much()
	written, displayed := show.Write(d), show.Display(d)
	clear(d.Items[4].Num.Mag[:5])
	clear(d.Items[:10])
	clear(d.Rest[:3])
	if w, s := show.Write(much()), show.Display(much()); w != written || s != displayed {
		t.Fatalf("%q and %q, then %q and %q", written, displayed, w, s)
	}
}

// An answer is new memory, though it be the bytes of a text that was handed in.
func TestAnswersAreNew(t *testing.T) {
	for _, d := range []api.Datum{text(strings.Repeat("a", 50)), symbol(strings.Repeat("a", 50)), dotted(symbol(strings.Repeat("a", 50)))} {
		from := d.Text
		if from == "" {
			from = d.Rest[0].Text
		}
		for _, got := range []string{show.Write(d), show.Display(d)} {
			if unsafe.StringData(got) == unsafe.StringData(from) {
				t.Fatalf("%q is the text that was handed in", got)
			}
		}
	}
}

// R3: nil and an empty list are one.
func TestNilAndEmpty(t *testing.T) {
	for kind := range 12 {
		none := api.Datum{Kind: kind, Text: "a"}
		empty := api.Datum{Kind: kind, Text: "a", Num: api.Num{Mag: []uint32{}}, Items: []api.Datum{}, Rest: []api.Datum{}}
		if show.Write(none) != show.Write(empty) || show.Display(none) != show.Display(empty) {
			t.Fatalf("kind %d: %q, %q", kind, show.Write(none), show.Write(empty))
		}
	}
}

// R4: other calls turn nothing.
func TestSameAgain(t *testing.T) {
	written, displayed := show.Write(much()), show.Display(much())
	for seed := range 200 {
		d := dice(seed + 1)
		x := d.any(4)
		show.Write(x)
		show.Display(x)
		if w, s := show.Write(much()), show.Display(much()); w != written || s != displayed {
			t.Fatalf("%q and %q, then %q and %q", written, displayed, w, s)
		}
	}
}

// nested is a datum that goes that deep.
func nested(deep int, d api.Datum, around func(api.Datum) api.Datum) api.Datum {
	for range deep {
		d = around(d)
	}
	return d
}

// R1: data may be deeper than calls go, though calls have little room.
func TestDeepData(t *testing.T) {
	const deep = 200000
	defer debug.SetMaxStack(debug.SetMaxStack(1 << 20))
	ends := func(open, end string) string {
		return strings.Repeat(open, deep) + "a" + strings.Repeat(end, deep)
	}
	a := symbol("a")
	for _, x := range []struct {
		want   string
		around func(api.Datum) api.Datum
	}{
		{ends("(", ")"), func(d api.Datum) api.Datum { return list(d) }},
		{ends("#(", ")"), func(d api.Datum) api.Datum { return vector(d) }},
		{ends("(b . ", ")"), func(d api.Datum) api.Datum { return dotted(d, symbol("b")) }},
		{ends("(", " b)"), func(d api.Datum) api.Datum { return list(d, symbol("b")) }},
		{ends("(", " . b)"), func(d api.Datum) api.Datum { return dotted(symbol("b"), d) }},
		{"a", func(d api.Datum) api.Datum { return dotted(d) }},
		{ends("#<condition x ", ">"), func(d api.Datum) api.Datum { return condition("x", d) }},
	} {
		d := nested(deep, a, x.around)
		if show.Write(d) != x.want || show.Display(d) != x.want {
			t.Fatalf("%.40q is wrong", x.want)
		}
	}
}

// R1: long lists take no longer than they are long.
func TestLongData(t *testing.T) {
	const long = 300000
	items := make([]api.Datum, long)
	for i := range items {
		items[i] = text("a")
	}
	written, displayed := strings.TrimSuffix(strings.Repeat(`"a" `, long), " "), strings.TrimSuffix(strings.Repeat("a ", long), " ")
	for _, x := range []struct {
		d                  api.Datum
		written, displayed string
	}{
		{list(items...), "(" + written + ")", "(" + displayed + ")"},
		{dotted(text("b"), items...), "(" + written + ` . "b")`, "(" + displayed + " . b)"},
		{vector(items...), "#(" + written + ")", "#(" + displayed + ")"},
		{condition("x", items...), "#<condition x " + written + ">", "#<condition x " + written + ">"},
	} {
		if show.Write(x.d) != x.written || show.Display(x.d) != x.displayed {
			t.Fatalf("%.40q is wrong", x.written)
		}
	}
}
