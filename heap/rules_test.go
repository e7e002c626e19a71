package heap_test

import (
	"slices"
	"testing"

	"tandem/heap"
)

const mark = 0xabadcafe

// whole is a list with its spare room.
func whole(l []uint64) []uint64 { return l[:cap(l)] }

// R3: roots are neither changed, spare room included, nor answered, nor kept.
func TestRootsStay(t *testing.T) {
	for n := range 7 {
		h, p := graph(t, 64)
		h.Collect()
		// Objects that stand elsewhere behind a collection, so that a root that were changed would be seen.
		laid(t, h, 1, 2, 0)
		for i := range p {
			p[i] = laid(t, h, 2, 1, 0)
		}
		room := append(slices.Clone(p), mark, mark)
		was := slices.Clone(room)
		got := h.Collect(room[:n]...)
		if !slices.Equal(room, was) {
			t.Fatalf("%d roots turned into %x", n, room)
		}
		for i := range whole(got) {
			whole(got)[i] = mark
		}
		if !slices.Equal(room, was) {
			t.Fatalf("%d roots share the answer's memory", n)
		}
		words := h.Words()
		for i := range room {
			room[i] = mark
		}
		wantWords(t, h, words...)
	}
}

// R3: Words are new memory each time, spare room too; so are Collect's roots.
func TestAnswersAreNew(t *testing.T) {
	h, p := graph(t, 64)
	was := h.Words()
	first, second := h.Words(), h.Words()
	for i := range whole(first) {
		whole(first)[i] = mark
	}
	if !slices.Equal(second, was) {
		t.Fatal("two answers share memory")
	}
	wantWords(t, h, was...)
	q := laid(t, h, 9, 1, 1)
	wantWords(t, h, append(was, head(9, 1, 1), False, 0)...)
	roots := h.Collect(append(p, q)...)
	want := slices.Clone(roots)
	was = h.Words()
	again := h.Collect(roots...)
	for i := range whole(roots) {
		whole(roots)[i] = mark
	}
	if !slices.Equal(again, want) {
		t.Fatal("two answers share memory")
	}
	wantWords(t, h, was...)
}

// R3: an answer stays as it is, whatever the heap goes through.
func TestAnswersStay(t *testing.T) {
	h, p := graph(t, 64)
	words := h.Words()
	was := slices.Clone(words)
	setRaw(t, h, p[0], 0, mark)
	set(t, h, p[0], 0, 1)
	for range 3 {
		h.Collect(p[0])
		h.Collect()
		laid(t, h, 3, 20, 20)
	}
	if !slices.Equal(words, was) {
		t.Fatalf("%x, want %x", words, was)
	}
}

// R4: two heaps have nothing in common.
func TestTwoHeaps(t *testing.T) {
	g, p := graph(t, 64)
	h, q := graph(t, 64)
	was := g.Words()
	for _, w := range q {
		setRaw(t, h, w, 0, mark)
	}
	h.Collect(q[0])
	h.Collect()
	laid(t, h, 63, 5, 5)
	wantWords(t, g, was...)
	if g.Times() != 0 || h.Times() != 2 || g.Used() == h.Used() {
		t.Errorf("%d, %d", g.Times(), h.Times())
	}
	for _, w := range p {
		if !g.Is(w) {
			t.Errorf("%d is gone", w)
		}
	}
}

// R4: the same calls have the same answers.
func TestSameCallsSameAnswers(t *testing.T) {
	row := func() ([]uint64, []uint64) {
		h, p := graph(t, 64)
		roots := h.Collect(p[2], p[0])
		laid(t, h, 5, 2, 2)
		return append(roots, h.Collect(roots...)...), h.Words()
	}
	roots, words := row()
	for range 5 {
		moreRoots, moreWords := row()
		if !slices.Equal(roots, moreRoots) || !slices.Equal(words, moreWords) {
			t.Fatalf("%x, %x; %x, %x", roots, words, moreRoots, moreWords)
		}
	}
}

// R1: nothing panics: every call at every edge, on heaps that are empty, in use, and just collected.
func TestEdgesOfAll(t *testing.T) {
	edges := []int{-1 << 63, -1 << 32, -65, -2, -1, 0, 1, 2, 3, 4, 8, 12, 63, 64, 65, 1 << 20, 1<<20 + 1, 1 << 32, 1<<63 - 1}
	for _, a := range edges {
		for _, b := range edges {
			full, _ := graph(t, 64)
			moved, p := graph(t, 64)
			moved.Collect(p[4])
			for _, h := range []*heap.Heap{made(t, 2), full, moved} {
				askAll(h, a, b)
			}
		}
	}
}

func askAll(h *heap.Heap, a, b int) {
	w := uint64(a)
	h.Is(w)
	h.Kind(w)
	h.Tagged(w)
	h.Raws(w)
	h.Get(w, b)
	h.Raw(w, b)
	h.Set(w, b, uint64(b))
	h.Set(4, b, w)
	h.SetRaw(w, b, w)
	h.SetRaw(4, b, w)
	h.Alloc(a, b, a)
	h.Alloc(1, a, b)
	h.Collect(w, uint64(b))
	h.Words()
}
