package heap_test

import (
	"math"
	"slices"
	"testing"

	"tandem/api"
	"tandem/heap"
)

// False stands in a tagged field at first.
const False = 2

// made is a heap that is known to be taken.
func made(t *testing.T, words int) *heap.Heap {
	t.Helper()
	h, e := heap.New(words)
	if e != api.OK || h == nil {
		t.Fatalf("New(%d): %v, %d", words, h, e)
	}
	return h
}

// laid is an object that is known to have room.
func laid(t *testing.T, h *heap.Heap, kind, tagged, raw int) uint64 {
	t.Helper()
	p, ok := h.Alloc(kind, tagged, raw)
	if !ok {
		t.Fatalf("Alloc(%d, %d, %d): no room from %d on", kind, tagged, raw, h.Used())
	}
	return p
}

// set sets a field that is known to be there.
func set(t *testing.T, h *heap.Heap, p uint64, i int, w uint64) {
	t.Helper()
	if !h.Set(p, i, w) {
		t.Fatalf("Set(%d, %d, %d): false", p, i, w)
	}
}

// setRaw sets a raw field that is known to be there.
func setRaw(t *testing.T, h *heap.Heap, p uint64, i int, w uint64) {
	t.Helper()
	if !h.SetRaw(p, i, w) {
		t.Fatalf("SetRaw(%d, %d, %d): false", p, i, w)
	}
}

// head is a header, as the chapter says it.
func head(kind, tagged, raw int) uint64 {
	return 3 + uint64(kind)*4 + uint64(tagged)*256 + uint64(raw)*(1<<32)
}

// wantWords holds all words against those that should be there, and Used with them.
func wantWords(t *testing.T, h *heap.Heap, want ...uint64) {
	t.Helper()
	if got := h.Words(); !slices.Equal(got, want) || h.Used() != len(want) {
		t.Fatalf("Used %d, words %x, want %x", h.Used(), got, want)
	}
}

// P3.1 to P3.4: the chapter's example, word for word.
func TestChapterExample(t *testing.T) {
	h := made(t, 10)
	if p, ok := h.Alloc(1, 2, 0); !ok || p != 4 || h.Used() != 4 {
		t.Errorf("%d, %v, %d", p, ok, h.Used())
	}
	if p, ok := h.Alloc(2, 0, 1); !ok || p != 16 || h.Used() != 6 {
		t.Errorf("%d, %v, %d", p, ok, h.Used())
	}
	set(t, h, 4, 0, 16)
	if got := h.Collect(4); !slices.Equal(got, []uint64{4}) || h.Used() != 6 {
		t.Errorf("%v, %d", got, h.Used())
	}
	if w, ok := h.Get(4, 0); !ok || w != 16 {
		t.Errorf("%d, %v", w, ok)
	}
	if got := h.Collect(16); !slices.Equal(got, []uint64{4}) || h.Used() != 3 {
		t.Errorf("%v, %d", got, h.Used())
	}
}

// P3.1: which sizes are taken; what a new heap is.
func TestNew(t *testing.T) {
	for _, words := range []int{math.MinInt, -1, 0, 1, api.MaxWords + 1, math.MaxInt} {
		if h, e := heap.New(words); h != nil || e != api.ErrArg {
			t.Errorf("New(%d): %v, %d", words, h, e)
		}
	}
	for _, words := range []int{2, 3, 64, 65, 1000, api.MaxWords - 1, api.MaxWords} {
		h := made(t, words)
		if h.Size() != words || h.Used() != 1 || h.Times() != 0 {
			t.Errorf("New(%d): %d, %d, %d", words, h.Size(), h.Used(), h.Times())
		}
		wantWords(t, h, 0)
	}
}

// P3.2: how an object is laid: its header, False, 0.
func TestAllocLays(t *testing.T) {
	h := made(t, 20)
	if p := laid(t, h, 1, 0, 0); p != 4 {
		t.Errorf("the first: %d", p)
	}
	if p := laid(t, h, 63, 2, 3); p != 8 {
		t.Errorf("the second: %d", p)
	}
	if p := laid(t, h, 32, 0, 1); p != 32 {
		t.Errorf("the third: %d", p)
	}
	if p := laid(t, h, 17, 1, 0); p != 40 {
		t.Errorf("the fourth: %d", p)
	}
	wantWords(t, h, 0, head(1, 0, 0), head(63, 2, 3), False, False, 0, 0, 0, head(32, 0, 1), 0, head(17, 1, 0), False)
}

// P3.2: what may not be laid, and that it leaves nothing.
func TestAllocRefuses(t *testing.T) {
	h := made(t, 10)
	laid(t, h, 1, 2, 1)
	was := h.Words()
	for _, x := range [][3]int{
		{0, 0, 0}, {-1, 0, 0}, {64, 0, 0}, {math.MinInt, 0, 0}, {math.MaxInt, 0, 0}, {1 + 64, 0, 0}, {1 << 32, 0, 0},
		{1, -1, 0}, {1, 0, -1}, {1, -1, 2}, {1, 2, -1}, {1, math.MinInt, 0}, {1, 0, math.MinInt}, {1, -3, 5},
		{1, api.MaxWords + 1, 0}, {1, 0, api.MaxWords + 1}, {1, math.MaxInt, 0}, {1, 0, math.MaxInt}, {1, math.MaxInt, math.MaxInt}, {1, 1 << 24, 0}, {1, 0, 1 << 24}, {1, 1 << 62, 1 << 62},
		{1, 5, 0}, {1, 0, 5}, {1, 2, 3}, {1, api.MaxWords, 0}, {1, 0, api.MaxWords}, {1, api.MaxWords, api.MaxWords},
	} {
		if p, ok := h.Alloc(x[0], x[1], x[2]); ok || p != 0 {
			t.Errorf("Alloc%v: %d, %v", x, p, ok)
		}
		wantWords(t, h, was...)
	}
}

// P3.2: the last word of a half may be used, none behind it; both halves are that great.
func TestRoom(t *testing.T) {
	for _, size := range []int{2, 3, 7, 63, 64, 65, 66, 128, 129, 1000} {
		h := made(t, size)
		for range 4 {
			if p, ok := h.Alloc(5, size-1, 0); ok || p != 0 {
				t.Fatalf("size %d: one word too many", size)
			}
			laid(t, h, 5, (size-2)/2, size-2-(size-2)/2)
			if h.Used() != size || h.Size() != size {
				t.Fatalf("size %d: Used %d, Size %d", size, h.Used(), h.Size())
			}
			if p, ok := h.Alloc(5, 0, 0); ok || p != 0 {
				t.Fatalf("size %d: a word where there is none", size)
			}
			h.Collect()
		}
	}
}

// P3.2: the greatest heap in one object of either kind of field, so that counts pass 2^16.
func TestGreatestObject(t *testing.T) {
	const most = api.MaxWords - 2
	for _, x := range [][2]int{{most, 0}, {0, most}, {most / 2, most - most/2}} {
		h := made(t, api.MaxWords)
		p := laid(t, h, 63, x[0], x[1])
		p = h.Collect(p)[0]
		if h.Kind(p) != 63 || h.Tagged(p) != x[0] || h.Raws(p) != x[1] || h.Used() != api.MaxWords {
			t.Fatalf("%v: %d, %d, %d", x, h.Kind(p), h.Tagged(p), h.Raws(p))
		}
		holdFields(t, h, p, x[0], x[1])
	}
}

// holdFields holds the fields of an object that is as it was laid, and those that it has not.
func holdFields(t *testing.T, h *heap.Heap, p uint64, tagged, raw int) {
	t.Helper()
	for _, i := range []int{math.MinInt, -1, 0, tagged / 2, tagged - 1, tagged, raw, tagged + raw, math.MaxInt} {
		w, ok := h.Get(p, i)
		if has := i >= 0 && i < tagged; ok != has || has && w != False || !has && w != 0 {
			t.Fatalf("Get(%d): %d, %v", i, w, ok)
		}
	}
	for _, i := range []int{math.MinInt, -1, 0, raw / 2, raw - 1, raw, tagged, tagged + raw, math.MaxInt} {
		if w, ok := h.Raw(p, i); w != 0 || ok != (i >= 0 && i < raw) {
			t.Fatalf("Raw(%d): %d, %v", i, w, ok)
		}
	}
}

// P3.3: only places at which objects were laid are objects, whatever stands at the others.
func TestIsNotWhatLooksLikeIt(t *testing.T) {
	h := made(t, 30)
	p := laid(t, h, 9, 1, 4)
	q := laid(t, h, 8, 1, 1)
	set(t, h, p, 0, q)
	setRaw(t, h, p, 0, head(1, 1, 1))
	setRaw(t, h, p, 1, head(2, 0, 0))
	setRaw(t, h, p, 2, head(3, 1<<23, 1<<23))
	setRaw(t, h, p, 3, p)
	for w := range uint64(4 * 40) {
		holdNone(t, h, w, w == p || w == q)
	}
	for _, w := range []uint64{p + 1<<63, p + 1<<62, q + 1<<40, p + 1<<32, 4 * api.MaxWords, 4 * 1 << 60, math.MaxUint64, math.MaxUint64 - 3, 1 << 63} {
		holdNone(t, h, w, false)
	}
}

// holdNone holds all that is told of a word that is no object, unless it should be one.
func holdNone(t *testing.T, h *heap.Heap, w uint64, object bool) {
	t.Helper()
	if h.Is(w) != object {
		t.Fatalf("Is(%x): %v", w, !object)
	}
	if object {
		return
	}
	if h.Kind(w) != 0 || h.Tagged(w) != 0 || h.Raws(w) != 0 {
		t.Fatalf("%x: kind %d, %d, %d", w, h.Kind(w), h.Tagged(w), h.Raws(w))
	}
	was := h.Words()
	got, ok := h.Get(w, 0)
	raw, good := h.Raw(w, 0)
	if got != 0 || ok || raw != 0 || good || h.Set(w, 0, 1) || h.SetRaw(w, 0, 1) {
		t.Fatalf("%x: has fields", w)
	}
	wantWords(t, h, was...)
}

// P3.3: Set takes fixnums, immediates, pointers to objects; nothing else.
func TestSet(t *testing.T) {
	h := made(t, 20)
	p := laid(t, h, 1, 2, 2)
	q := laid(t, h, 2, 1, 0)
	for _, w := range []uint64{1, 5, math.MaxUint64 - 2, 1<<63 + 1, 2, 6, math.MaxUint64 - 1, 1<<63 + 2, p, q} {
		for i := range 2 {
			set(t, h, p, i, w)
			if got, ok := h.Get(p, i); !ok || got != w {
				t.Errorf("Get behind Set of %x: %x, %v", w, got, ok)
			}
		}
	}
	was := h.Words()
	for _, w := range []uint64{0, 3, 7, head(1, 2, 2), math.MaxUint64, p + 4, p + 8, q + 4, q + 8, 4 * 20, 1 << 40, 1 << 63, p + 1<<62} {
		if h.Set(p, 0, w) || h.Set(q, 0, w) {
			t.Errorf("Set of %x", w)
		}
	}
	for _, i := range []int{math.MinInt, -1, 2, 3, 4, math.MaxInt} {
		if h.Set(p, i, 1) {
			t.Errorf("Set of field %d", i)
		}
	}
	wantWords(t, h, was...)
}

// P3.3: SetRaw takes any word, and turns that field alone.
func TestSetRaw(t *testing.T) {
	h := made(t, 20)
	p := laid(t, h, 1, 2, 2)
	laid(t, h, 2, 1, 1)
	for _, w := range []uint64{0, 1, 2, 3, 4, 12, math.MaxUint64, head(1, 1, 1), 1 << 63} {
		setRaw(t, h, p, 0, w)
		setRaw(t, h, p, 1, ^w)
		wantWords(t, h, 0, head(1, 2, 2), False, False, w, ^w, head(2, 1, 1), False, 0)
		a, ok := h.Raw(p, 0)
		b, good := h.Raw(p, 1)
		if !ok || !good || a != w || b != ^w {
			t.Errorf("Raw behind SetRaw of %x: %x, %v; %x, %v", w, a, ok, b, good)
		}
	}
	was := h.Words()
	for _, i := range []int{math.MinInt, -2, -1, 2, 3, math.MaxInt} {
		if h.SetRaw(p, i, 99) {
			t.Errorf("SetRaw of field %d", i)
		}
	}
	wantWords(t, h, was...)
}
