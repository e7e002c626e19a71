package ir

import (
	"tandem/api"
	"tandem/num"
)

// How a register holds something.
const (
	asValue = 0
	asRaw   = 1
)

// home is where a slot stands at merges: the first slot is the first one of the outermost frame, and those of inlined procedures stand behind.
type home struct{ how, slot int }

// writer writes code.
type writer struct {
	api.Code
	homes   map[home]int
	temps   [2][]int // registers that hold what was worked out since the last merge
	row     int      // the first of those that hand values to an instruction that wants them in a row, or none
	consts  pool[literal]
	raws    pool[int64]
	names   pool[string]
	waiting []path
	ids     int // of things
	cells   [3]int
	long    bool // there is too much of something: what is written then does not count
}

// What holds cells.
const (
	ofExits = iota
	ofMerges
	ofPaths
)

func writerOf(depth int) *writer {
	w := &writer{homes: map[home]int{}, row: none}
	for i := range depth {
		w.homes[home{asValue, i}] = i
	}
	w.Regs = depth
	return w
}

// whole is all that was written.
func (w *writer) whole(p, entry int) api.Code {
	c := w.Code
	c.Proto, c.Entry = p, entry
	for _, l := range w.consts.keys {
		c.Consts = append(c.Consts, l.datum())
	}
	c.Raws, c.Names = w.raws.keys, w.names.keys
	return c
}

// put puts instructions behind those that are there.
func (w *writer) put(ins ...api.RIns) {
	if len(w.Ins)+len(ins) > most {
		w.long = true
		return
	}
	w.Ins = append(w.Ins, ins...)
}

// hold counts cells that are held.
func (w *writer) hold(what, n int) {
	w.cells[what] += n
	if w.cells[what] > mostCells {
		w.long = true
	}
}

// registers are so many in a row that nothing else is in; the first one is answered.
func (w *writer) registers(n int) int {
	if w.Regs > most-n {
		w.long = true
		return 0
	}
	w.Regs += n
	return w.Regs - n
}

// home is the register that a slot stands in at merges.
func (w *writer) home(how, slot int) int {
	h := home{how, slot}
	r, ok := w.homes[h]
	if !ok {
		r = w.registers(1)
		w.homes[h] = r
	}
	return r
}

// temp is the register of that number among those for what is worked out between merges.
func (w *writer) temp(how, n int) int {
	if n == len(w.temps[how]) {
		w.temps[how] = append(w.temps[how], w.registers(1))
	}
	return w.temps[how][n]
}

// wait lets a path wait to be followed.
func (w *writer) wait(p path) {
	w.waiting = append(w.waiting, p)
	w.hold(ofPaths, len(p.slots))
}

// take is the path that came to wait last.
func (w *writer) take() path {
	last := len(w.waiting) - 1
	p := w.waiting[last]
	w.waiting = w.waiting[:last]
	w.hold(ofPaths, -len(p.slots))
	return p
}

// pool numbers keys in the order in which they are first asked for.
type pool[K comparable] struct {
	keys []K
	at   map[K]int
}

func (p *pool[K]) of(key K) int {
	n, ok := p.at[key]
	if ok {
		return n
	}
	if p.at == nil {
		p.at = map[K]int{}
	}
	n = len(p.keys)
	p.at[key] = n
	p.keys = append(p.keys, key)
	return n
}

// literal is a constant that is no object. Of a number n is the number.
type literal struct {
	kind, n int
	text    string
}

func (l literal) datum() api.Datum {
	if l.kind == api.Int {
		return api.Datum{Kind: api.Int, Num: num.Of(int64(l.n))}
	}
	return api.Datum{Kind: l.kind, N: l.n, Text: l.text}
}
