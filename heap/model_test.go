package heap_test

import (
	"slices"
	"testing"

	"tandem/heap"
)

// thing is an object as the chapter tells of it: what its tagged fields point to is told by things, not by places.
type thing struct {
	kind   int
	tagged []field
	raw    []uint64
}

// field is a word, unless it points to a thing.
type field struct {
	to   *thing
	word uint64
}

// model is what a heap should hold, in order.
type model struct {
	size, times int
	things      []*thing
}

func (m *model) places() map[*thing]int {
	at := map[*thing]int{}
	place := 1
	for _, x := range m.things {
		at[x] = place
		place += 1 + len(x.tagged) + len(x.raw)
	}
	return at
}

func (m *model) used() int {
	used := 1
	for _, x := range m.things {
		used += 1 + len(x.tagged) + len(x.raw)
	}
	return used
}

func (m *model) words() []uint64 {
	at := m.places()
	out := []uint64{0}
	for _, x := range m.things {
		out = append(out, head(x.kind, len(x.tagged), len(x.raw)))
		for _, f := range x.tagged {
			out = append(out, f.wordAt(at))
		}
		out = append(out, x.raw...)
	}
	return out
}

func (f field) wordAt(at map[*thing]int) uint64 {
	if f.to != nil {
		return uint64(at[f.to]) * 4
	}
	return f.word
}

func (m *model) alloc(kind, tagged, raw int) bool {
	if m.used()+1+tagged+raw > m.size {
		return false
	}
	x := &thing{kind: kind, raw: make([]uint64, raw)}
	x.tagged = slices.Repeat([]field{{word: False}}, tagged)
	m.things = append(m.things, x)
	return true
}

// collect keeps a list of things in the order in which they are met.
func (m *model) collect(roots []field) {
	var met []*thing
	meet := func(f field) {
		if f.to != nil && !slices.Contains(met, f.to) {
			met = append(met, f.to)
		}
	}
	for _, r := range roots {
		meet(r)
	}
	for i := 0; i < len(met); i++ {
		for _, f := range met[i].tagged {
			meet(f)
		}
	}
	m.things = met
	m.times++
}

// fieldOf is what a word is to the model: a thing, if one stands there.
func (m *model) fieldOf(w uint64) field {
	for x, place := range m.places() {
		if uint64(place)*4 == w {
			return field{to: x}
		}
	}
	return field{word: w}
}

// dice is a row of numbers that is the same in each run.
type dice uint64

func (d *dice) below(n int) int {
	*d ^= *d << 13
	*d ^= *d >> 7
	*d ^= *d << 17
	return int(uint64(*d) >> 11 % uint64(n))
}

// word is a word of any sort: many near the places of the heap.
func (d *dice) word(size int) uint64 {
	switch d.below(8) {
	case 0:
		return uint64(d.below(1<<53))<<11 | uint64(d.below(1<<11))
	case 1:
		return head(d.below(64), d.below(4), d.below(4))
	case 2:
		return uint64(d.below(4 * size))
	}
	return uint64(d.below(size+2)) * 4
}

// pair is a heap, and what it should hold.
type pair struct {
	t *testing.T
	h *heap.Heap
	m *model
	d *dice
}

// object is a pointer to one of the objects, or now and then any word.
func (p pair) object() uint64 {
	if len(p.m.things) == 0 || p.d.below(10) == 0 {
		return p.d.word(p.m.size)
	}
	x := p.m.things[p.d.below(len(p.m.things))]
	return uint64(p.m.places()[x]) * 4
}

// held is a word that may be an object or not.
func (p pair) held() uint64 {
	if p.d.below(3) == 0 {
		return p.d.word(p.m.size)
	}
	return p.object()
}

func (p pair) alloc() {
	kind, tagged, raw := 1+p.d.below(63), p.d.below(5), p.d.below(4)
	want := uint64(0)
	room := p.m.used()
	if p.m.alloc(kind, tagged, raw) {
		want = uint64(room) * 4
	}
	if got, ok := p.h.Alloc(kind, tagged, raw); got != want || ok != (want != 0) {
		p.t.Fatalf("Alloc(%d, %d, %d) from %d on: %d, %v", kind, tagged, raw, room, got, ok)
	}
}

func (p pair) set() {
	o, i, w := p.object(), p.d.below(6)-1, p.held()
	x := p.m.fieldOf(o).to
	f := p.m.fieldOf(w)
	may := x != nil && i >= 0 && i < len(x.tagged) && (f.to != nil || w%4 == 1 || w%4 == 2)
	if p.h.Set(o, i, w) != may {
		p.t.Fatalf("Set(%x, %d, %x): %v", o, i, w, !may)
	}
	if may {
		x.tagged[i] = f
	}
}

func (p pair) setRaw() {
	o, i, w := p.object(), p.d.below(6)-1, p.held()
	x := p.m.fieldOf(o).to
	may := x != nil && i >= 0 && i < len(x.raw)
	if p.h.SetRaw(o, i, w) != may {
		p.t.Fatalf("SetRaw(%x, %d, %x): %v", o, i, w, !may)
	}
	if may {
		x.raw[i] = w
	}
}

func (p pair) collect() {
	var roots []uint64
	var fields []field
	for range p.d.below(5) {
		w := p.held()
		roots = append(roots, w)
		fields = append(fields, p.m.fieldOf(w))
	}
	p.m.collect(fields)
	at := p.m.places()
	got := p.h.Collect(roots...)
	for i, f := range fields {
		if len(got) != len(roots) || got[i] != f.wordAt(at) {
			p.t.Fatalf("Collect(%x): %x", roots, got)
		}
	}
}

// hold holds all that the heap tells against the model.
func (p pair) hold() {
	if p.h.Used() != p.m.used() || p.h.Size() != p.m.size || p.h.Times() != p.m.times {
		p.t.Fatalf("%d, %d, %d", p.h.Used(), p.h.Size(), p.h.Times())
	}
	want := p.m.words()
	if got := p.h.Words(); !slices.Equal(got, want) {
		p.t.Fatalf("words %x, want %x", got, want)
	}
	at := map[int]*thing{}
	for x, place := range p.m.places() {
		at[place] = x
	}
	for place := range p.m.size + 2 {
		p.holdObject(uint64(place)*4, at[place], want)
	}
}

func (p pair) holdObject(w uint64, x *thing, words []uint64) {
	if x == nil {
		if p.h.Is(w) || p.h.Kind(w) != 0 {
			p.t.Fatalf("%x is an object", w)
		}
		return
	}
	tagged, raw := len(x.tagged), len(x.raw)
	if !p.h.Is(w) || p.h.Kind(w) != x.kind || p.h.Tagged(w) != tagged || p.h.Raws(w) != raw {
		p.t.Fatalf("%x: %d, %d, %d", w, p.h.Kind(w), p.h.Tagged(w), p.h.Raws(w))
	}
	fields := words[w/4+1:]
	for i := range tagged {
		if got, ok := p.h.Get(w, i); !ok || got != fields[i] {
			p.t.Fatalf("Get(%x, %d): %x, %v", w, i, got, ok)
		}
	}
	for i := range raw {
		if got, ok := p.h.Raw(w, i); !ok || got != fields[tagged+i] {
			p.t.Fatalf("Raw(%x, %d): %x, %v", w, i, got, ok)
		}
	}
}

// P3.1 to P3.5: long rows of calls, held against the model behind each.
func TestAgainstModel(t *testing.T) {
	d := dice(2026)
	for _, size := range []int{2, 3, 5, 17, 64, 65, 150} {
		p := pair{t, made(t, size), &model{size: size}, &d}
		calls := []func(){p.alloc, p.alloc, p.alloc, p.alloc, p.set, p.set, p.set, p.set, p.setRaw, p.setRaw, p.collect}
		for range 1500 {
			calls[d.below(len(calls))]()
			p.hold()
		}
	}
}
