package ir

import "tandem/api"

// thing is what is known of what is in a slot: in which registers it is (none: in none of that kind), or which literal it is. Slots with things of one id hold the same.
type thing struct {
	id      int
	in      [2]int // the registers that hold it as a value, as a raw number
	literal literal
	isBox   bool
	isOther bool // than a fixnum
	origin  int  // the number of the slot at a merge that it came from, or none
}

// thing is one of which nothing is known.
func (w *writer) thing() thing {
	w.ids++
	return thing{id: w.ids, in: [2]int{none, none}, origin: none}
}

// inRegister is a thing of which nothing is known but the register that holds it.
func (w *writer) inRegister(how, register int) thing {
	t := w.thing()
	t.in[how] = register
	return t
}

func (w *writer) ofLiteral(l literal) thing {
	t := w.thing()
	t.literal, t.isOther = l, l.kind != api.Int
	return t
}

func (t thing) isLiteral() bool { return t.literal.kind != 0 }
