package regs_test

import (
	"maps"
	"slices"
	"strconv"

	"tandem/api"
	"tandem/prim"
	"tandem/value"
)

// How a run of register code ends.
const (
	endless = "endless" // for want of fuel
	broken  = "broken"  // it did what no right code does
)

// What a register holds.
const (
	nothing = iota
	aValue
	aRaw
)

type cell struct {
	kind int
	w    uint64
	n    int64
}

// world is what register code runs in. Nothing is ever collected.
type world struct {
	*value.Store
	api.Code
	ps      []api.Proto
	consts  map[[2]int]uint64
	globals map[string]uint64
	self    uint64
	regs    []cell
	slots   []cell
	out     []byte
	end     string
	fault   string  // what it found wrong with maps
	live    [][]int // by the second way to tell what is wanted; none of code without maps
	steps   int
	guards  int // how many were done
	fails   int // the number of the guard that fails, or -1
}

// worldOf is one in which a frame of the code's proto, with slots that are any, is about to run: the same one for each seed.
func worldOf(ps []api.Proto, c api.Code, seed uint64, depth int) *world {
	store, _ := value.New(1 << 14)
	w := &world{Store: store, Code: c, ps: ps, consts: map[[2]int]uint64{}, globals: map[string]uint64{}, regs: make([]cell, c.Regs), slots: make([]cell, c.Slots), fails: -1}
	d := &dice{seed}
	w.self = w.closure(c.Proto, w.anyWords(d, ps[c.Proto].Free)...)
	for i, x := range w.anyWords(d, depth) {
		w.regs[i] = cell{kind: aValue, w: x}
	}
	names := slices.Clone(c.Names)
	for _, p := range ps {
		names = append(names, p.Names...)
	}
	slices.Sort(names)
	for _, name := range slices.Compact(names) {
		if d.below(5) > 0 {
			w.globals[name] = w.anyWord(d)
		}
	}
	return w
}

func (w *world) closure(code int, values ...uint64) uint64 {
	c := w.sure(w.Alloc(6, len(values), 1))
	for i, x := range values {
		w.Set(c, i, x)
	}
	w.SetRaw(c, 0, uint64(code))
	return c
}

func (w *world) newBox(x uint64) uint64 {
	b := w.sure(w.Alloc(7, 1, 0))
	w.Set(b, 0, x)
	return b
}

// sure is what was laid; there is room for all that a test lays.
func (w *world) sure(x uint64, ok bool) uint64 {
	if !ok {
		panic("no room in a test's world")
	}
	return x
}

func (w *world) anyWords(d *dice, n int) []uint64 {
	var all []uint64
	for range n {
		all = append(all, w.anyWord(d))
	}
	return all
}

func (w *world) anyWord(d *dice) uint64 {
	switch d.below(32) {
	case 0, 1, 2, 3:
		return pick[uint64](d, 2, 2, 2, 6, 10, 14, 18, 65<<8|22)
	case 4:
		return w.newBox(w.anyWord(d))
	case 5:
		return w.sure(w.Cons(w.anyWord(d), w.anyWord(d)))
	case 7:
		n := d.below(len(w.ps))
		return w.closure(n, w.anyWords(d, w.ps[n].Free)...)
	case 6:
		return w.sure(w.Put(pick(d, whole(1<<61-1), whole(-1<<61), whole(1<<61), whole(1<<40), api.Datum{Kind: api.String, Text: "t"})))
	}
	return w.sure(value.Fix(int64(d.below(7)) - 2))
}

// run runs the code, and tells all that can be told of it; endless or broken, if it came to no end.
func (w *world) run(fuel int) string {
	for at := 0; w.end == ""; w.steps++ {
		if w.steps == fuel {
			return endless
		}
		w.throwAway(at)
		at = w.step(at)
	}
	return w.end
}

func (w *world) value(n int) uint64 {
	if w.regs[n].kind != aValue {
		w.end = broken
	}
	return w.regs[n].w
}

func (w *world) raw(n int) int64 {
	if w.regs[n].kind != aRaw {
		w.end = broken
	}
	return w.regs[n].n
}

// held is what a register or a slot holds that must hold something.
func (w *world) held(c cell) cell {
	if c.kind == nothing {
		w.end = broken
	}
	return c
}

// throwAway lets all registers but those of the map, and those with raw numbers, hold nothing. A map has the values that are wanted, all of them, and nothing else.
func (w *world) throwAway(at int) {
	if w.live == nil || w.fault != "" {
		return
	}
	for r := range w.regs {
		kind, isMapped := w.regs[r].kind, slices.Contains(w.Maps[at], r)
		if isLive := slices.Contains(w.live[at], r); isMapped != (isLive && kind == aValue) || isLive && kind == nothing {
			w.fault = "register " + strconv.Itoa(r) + " at " + strconv.Itoa(at)
		}
		if !isMapped && kind == aValue {
			w.regs[r] = cell{}
		}
	}
}

func (w *world) set(n int, x uint64) { w.regs[n] = cell{kind: aValue, w: x} }

// step does an instruction, and tells which one is next.
func (w *world) step(at int) int {
	x := w.Ins[at]
	switch x.Op {
	case api.RJump:
		return x.A
	case api.RIf:
		if w.value(x.A) == 2 {
			return x.B
		}
	case api.RReturn:
		w.endWith("returns", w.value(x.A))
	case api.RTail:
		var all []uint64
		for i := range x.B + 1 {
			all = append(all, w.value(x.A+i))
		}
		w.endWith("calls", all...)
	case api.RExit:
		w.leave(x.E)
	default:
		if !w.plain(x) {
			w.guarded(x)
		}
	}
	return at + 1
}

// plain does an instruction that has no exit; false, if it is none of these.
func (w *world) plain(x api.RIns) bool {
	switch x.Op {
	case api.RConst:
		w.set(x.A, w.constant(x.B, x.C))
	case api.RRaw:
		w.regs[x.A] = cell{kind: aRaw, n: w.Raws[x.B]}
	case api.RMove:
		w.regs[x.A] = w.held(w.regs[x.B])
	case api.RSpill:
		w.slots[x.B] = w.held(w.regs[x.A])
	case api.RFill:
		w.regs[x.A] = w.held(w.slots[x.B])
	case api.RFree:
		w.set(x.A, w.valueOf(w.self, x.B))
	case api.RFreeOf:
		w.set(x.A, w.valueOf(w.value(x.B), x.C))
	case api.RBox:
		w.set(x.A, w.fixnum(w.raw(x.B)))
	case api.RLess, api.RSame:
		b, c := w.raw(x.B), w.raw(x.C)
		is := x.Op == api.RLess && b < c || x.Op == api.RSame && b == c
		w.set(x.A, map[bool]uint64{false: 2, true: 6}[is])
	case api.RNew:
		w.set(x.A, w.newBox(w.value(x.B)))
	case api.RSave:
		if w.Kind(w.value(x.A)) != 7 {
			w.end = broken
		}
		w.Set(w.value(x.A), 0, w.value(x.B))
	default:
		return false
	}
	return true
}

func (w *world) constant(n, owner int) uint64 {
	d := api.Datum{}
	if owner == 0 {
		d = w.Consts[n]
	} else {
		d = w.ps[owner-1].Consts[n]
	}
	switch {
	case d.Kind == api.Proc:
		return uint64(d.N)<<8 | 26
	case d.Kind == api.Symbol && d.N == -1:
		return 18
	case owner == 0:
		return w.sure(w.Put(d))
	}
	at := [2]int{owner, n}
	if _, ok := w.consts[at]; !ok {
		w.consts[at] = w.sure(w.Put(d))
	}
	return w.consts[at]
}

func (w *world) fixnum(n int64) uint64 {
	x, ok := value.Fix(n)
	if !ok {
		w.end = broken
	}
	return x
}

// valueOf is a closure's value.
func (w *world) valueOf(closure uint64, n int) uint64 {
	x, ok := w.Get(closure, n)
	if !ok || w.Kind(closure) != 6 {
		w.end = broken
	}
	return x
}

// guarded does an instruction that may go to its exit.
func (w *world) guarded(x api.RIns) {
	w.guards++
	if w.fails == w.guards-1 {
		w.leave(x.E)
		return
	}
	before := slices.Clone(w.regs)
	if !w.holds(x) {
		w.regs = before
		w.leave(x.E)
	}
}

func (w *world) holds(x api.RIns) bool {
	switch x.Op {
	case api.RGlobal:
		g, ok := w.globals[w.Names[x.B]]
		w.set(x.A, g)
		return ok
	case api.RSetGlo:
		g := w.value(x.A)
		if _, ok := w.globals[w.Names[x.B]]; !ok {
			return false
		}
		w.globals[w.Names[x.B]] = g
		return true
	case api.RUnbox:
		n, ok := value.Int(w.value(x.B))
		w.regs[x.A] = cell{kind: aRaw, n: n}
		return ok
	case api.RCar, api.RCdr:
		pair := w.value(x.B)
		part, _ := w.Get(pair, x.Op-api.RCar)
		w.set(x.A, part)
		return w.Kind(pair) == 1
	case api.RIs:
		n, _ := w.Raw(w.value(x.A), 0)
		return w.Kind(w.value(x.A)) == 6 && n == uint64(x.B)
	case api.RLoad:
		box := w.value(x.B)
		in, ok := w.Get(box, 0)
		w.set(x.A, in)
		return ok && w.Kind(box) == 7 && in != 18
	case api.RPrim:
		return w.primitive(x)
	}
	return w.calculate(x)
}

func (w *world) primitive(x api.RIns) bool {
	var args []uint64
	for i := range x.D {
		args = append(args, w.value(x.C+i))
	}
	if w.end != "" {
		return true
	}
	answer, out, how := prim.Do(w.Store, x.B, args...)
	if how != api.Done && how != api.Wrong {
		w.end = "ends for " + strconv.Itoa(how)
		return true
	}
	w.out = append(w.out, out...)
	w.set(x.A, answer)
	return how == api.Done
}

// calculate does RAdd, RSub, RMul.
func (w *world) calculate(x api.RIns) bool {
	b, c := w.raw(x.B), w.raw(x.C)
	n := b + c
	switch x.Op {
	case api.RSub:
		n = b - c
	case api.RMul:
		if n = b * c; b != 0 && n/b != c {
			return false
		}
	}
	w.regs[x.A] = cell{kind: aRaw, n: n}
	_, ok := value.Fix(n)
	return ok
}

// leave ends the run with the frames of an exit.
func (w *world) leave(exit int) {
	text := "goes on with"
	var all []uint64
	for _, f := range w.Exits[exit].Frames {
		text += " " + strconv.Itoa(f.Proto) + ":" + strconv.Itoa(f.Pc) + ":" + strconv.Itoa(len(f.Slots))
		all = append(all, w.at(f.Self))
		for _, l := range f.Slots {
			all = append(all, w.at(l))
		}
	}
	w.endWith(text, all...)
}

func (w *world) at(l api.Loc) uint64 {
	switch l.Kind {
	case api.InReg:
		return w.value(l.N)
	case api.InRaw:
		return w.fixnum(w.raw(l.N))
	case api.InConst:
		return w.constant(l.N, 0)
	case api.InSelf:
		return w.self
	case api.InSlot:
		if w.slots[l.N].kind == aValue {
			return w.slots[l.N].w
		}
	case api.RawSlot:
		if w.slots[l.N].kind == aRaw {
			return w.fixnum(w.slots[l.N].n)
		}
	}
	w.end = broken
	return 0
}

// endWith ends the run: what it tells is what went out, how it ended, the globals, and all that can be got at from there.
func (w *world) endWith(text string, all ...uint64) {
	if w.end != "" {
		return
	}
	text += " after " + strconv.Quote(string(w.out))
	for _, name := range slices.Sorted(maps.Keys(w.globals)) {
		text += " " + name
		all = append(all, w.globals[name])
	}
	t := teller{world: w, seen: map[uint64]int{}}
	for _, x := range append(all, w.self) {
		t.tell(x)
	}
	w.end = text + t.text
}

// teller tells objects with all that is in them; one that was told already by its number.
type teller struct {
	*world
	seen map[uint64]int
	text string
}

func (t *teller) tell(x uint64) {
	if !t.Is(x) {
		t.text += " " + strconv.FormatUint(x, 10)
		return
	}
	n, ok := t.seen[x]
	if ok {
		t.text += " #" + strconv.Itoa(n)
		return
	}
	t.seen[x] = len(t.seen)
	t.text += " (" + strconv.Itoa(t.Kind(x))
	for i := range t.Tagged(x) {
		part, _ := t.Get(x, i)
		t.tell(part)
	}
	for i := range t.Store.Raws(x) {
		part, _ := t.Raw(x, i)
		t.text += " r" + strconv.FormatUint(part, 10)
	}
	t.text += ")"
}
