package fold

import (
	"slices"

	"tandem/api"
	"tandem/num"
)

// How much is known of what a register holds.
const (
	unseen   = iota // nothing yet: no way that is known comes there
	exact           // just what it is
	some            // its kind
	anything        // nothing
)

// Kinds of what registers hold, behind those of data. A constant is one of a proto, but for numbers and booleans: those are told as what they are.
const (
	aRaw = api.Cond + 1 + iota
	aBox
	aConstant
)

// thing is what is known of what a register holds.
type thing struct {
	how, kind int
	n         int64 // the number, or the datum's N, or which one of the proto's constants it is
	text      string
	owner     int // of a constant, as RConst names it
}

func anyThing() thing { return thing{how: anything} }

func someOf(kind int) thing { return thing{how: some, kind: kind} }

func number(kind int, n int64) thing { return thing{how: exact, kind: kind, n: n} }

func boolean(is bool) thing {
	if is {
		return number(api.Bool, 1)
	}
	return number(api.Bool, 0)
}

// literal is what a constant of the code's own is.
func literal(d api.Datum) thing {
	if t, ok := simple(d); ok {
		return t
	}
	return thing{how: exact, kind: d.Kind, n: int64(d.N), text: d.Text}
}

// simple is what a fixnum or a boolean is; false of another datum.
func simple(d api.Datum) (thing, bool) {
	n, isSmall := num.Small(d.Num)
	switch {
	case d.Kind == api.Int && isSmall:
		return number(api.Int, n), true
	case d.Kind == api.Bool && (d.N == 0 || d.N == 1):
		return boolean(d.N == 1), true
	}
	return thing{}, false
}

// datum is the constant that is a literal.
func (t thing) datum() api.Datum {
	if t.kind == api.Int {
		return api.Datum{Kind: api.Int, Num: num.Of(t.n)}
	}
	return api.Datum{Kind: t.kind, N: int(t.n), Text: t.text}
}

// meet is what is known of what is one of two things.
func meet(a, b thing) thing {
	switch {
	case a.how == unseen:
		return b
	case b.how == unseen, a == b:
		return a
	case a.kind == b.kind && a.how != anything && b.how != anything:
		return someOf(a.kind)
	}
	return anyThing()
}

func (t thing) is(how, kind int) bool { return t.how == how && t.kind == kind }

// isOther tells whether a thing is a value for sure, and of none of these kinds.
func (t thing) isOther(kinds ...int) bool {
	return t.how != anything && t.kind != aRaw && !slices.Contains(kinds, t.kind)
}

// isTrue tells whether a thing is a value for sure, and not false.
func (t thing) isTrue() bool { return t.isOther(api.Bool) || t == boolean(true) }
