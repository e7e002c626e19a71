package show

import (
	"strings"

	"tandem/api"
	"tandem/num"
)

// manner is how a datum is told.
type manner int

const (
	written manner = iota
	shown
)

// row is a list, a vector or a condition that is told in part.
type row struct {
	how  manner
	gap  string      // stands ahead of the next item
	left []api.Datum // the items that are still to be told
	rest []api.Datum // the first of it stands behind a dot
	end  string
}

// teller puts a datum's pieces together. The rows that it is within are kept in a list, as data may be deeper than calls may go.
type teller struct {
	out  strings.Builder
	rows []row // the innermost at the end
}

// told is a datum as text.
func told(d api.Datum, how manner) string {
	var t teller
	t.datum(d, how)
	for len(t.rows) > 0 {
		t.goOn()
	}
	return t.out.String()
}

// put puts pieces behind what was told.
func (t *teller) put(pieces ...string) {
	for _, p := range pieces {
		t.out.WriteString(p)
	}
}

// datum tells a datum; of one that has data in it the beginning alone, and goOn tells what is left.
func (t *teller) datum(d api.Datum, how manner) {
	switch d.Kind {
	case api.Int:
		t.put(num.Text(d.Num))
	case api.Bool:
		t.put(truth(d.N))
	case api.Char:
		t.letter(d.N, how)
	case api.String:
		t.text(d.Text, how)
	case api.Symbol:
		t.put(d.Text)
	case api.List:
		t.list(d, how)
	case api.Vector:
		t.begin(row{how: how, left: d.Items, end: ")"}, "#(")
	case api.Proc:
		t.put("#<procedure>")
	case api.Cond:
		t.begin(row{how: written, gap: " ", left: d.Items, end: ">"}, "#<condition ", d.Text)
	default:
		t.put("#<void>")
	}
}

func (t *teller) list(d api.Datum, how manner) {
	if len(d.Items) == 0 && len(d.Rest) > 0 {
		t.begin(row{how: how, left: d.Rest[:1]})
		return
	}
	t.begin(row{how: how, left: d.Items, rest: d.Rest, end: ")"}, "(")
}

// begin puts the pieces that a row begins with, and leaves the row to goOn.
func (t *teller) begin(r row, pieces ...string) {
	t.put(pieces...)
	t.rows = append(t.rows, r)
}

// goOn tells what is next in the innermost row.
func (t *teller) goOn() {
	r := &t.rows[len(t.rows)-1]
	switch {
	case len(r.left) > 0:
		d := r.left[0]
		t.put(r.gap)
		r.gap, r.left = " ", r.left[1:]
		t.datum(d, r.how)
	case len(r.rest) > 0:
		d := r.rest[0]
		t.put(" . ")
		r.rest = nil
		t.datum(d, r.how)
	default:
		t.put(r.end)
		t.rows = t.rows[:len(t.rows)-1]
	}
}
