package heap_test

import (
	"slices"
	"testing"

	"tandem/api"
	"tandem/heap"
)

// graph lays six objects: a points to b twice and to itself, b to c, c to b and d; e points to all, f to nothing. Their raw words look like pointers.
func graph(t *testing.T, size int) (*heap.Heap, []uint64) {
	t.Helper()
	h := made(t, size)
	var all []uint64
	for i, tagged := range []int{3, 1, 2, 0, 4, 0} {
		p := laid(t, h, i+1, tagged, 1)
		setRaw(t, h, p, 0, p)
		all = append(all, p)
	}
	for i, fields := range [][]int{{1, 1, 0}, {2}, {1, 3}, {}, {0, 1, 2, 3}, {}} {
		for k, to := range fields {
			set(t, h, all[i], k, all[to])
		}
	}
	return h, all
}

// P3.4: roots first, in their order; then what the copies point to, in the fields' order.
func TestCollectOrder(t *testing.T) {
	h, p := graph(t, 64)
	// d and b are copied as roots, then c, which b points to.
	got := h.Collect(p[3], p[1], p[3])
	if !slices.Equal(got, []uint64{4, 12, 4}) || h.Times() != 1 {
		t.Fatalf("%v, %d", got, h.Times())
	}
	wantWords(t, h, 0,
		head(4, 0, 1), p[3],
		head(2, 1, 1), 24, p[1],
		head(3, 2, 1), 12, 4, p[2])
	for w := range uint64(4 * 64) {
		holdNone(t, h, w, w == 4 || w == 12 || w == 24)
	}
}

// P3.4: it goes by breadth, not by depth.
func TestCollectByBreadth(t *testing.T) {
	h, p := graph(t, 64)
	got := h.Collect(p[4])
	if !slices.Equal(got, []uint64{4}) {
		t.Fatalf("%v", got)
	}
	wantWords(t, h, 0,
		head(5, 4, 1), 28, 48, 60, 76, p[4],
		head(1, 3, 1), 48, 48, 28, p[0],
		head(2, 1, 1), 60, p[1],
		head(3, 2, 1), 48, 76, p[2],
		head(4, 0, 1), p[3])
}

// P3.4: words that are no pointers to objects stay as they are, among roots and in fields.
func TestOtherWordsStay(t *testing.T) {
	h := made(t, 20)
	laid(t, h, 1, 1, 1)
	p := laid(t, h, 2, 3, 1)
	set(t, h, p, 0, 1<<63+5)
	set(t, h, p, 1, 1<<63+6)
	setRaw(t, h, p, 0, head(7, 7, 7))
	roots := []uint64{0, 1, 2, 3, 7, head(1, 1, 1), 8, 20, p, 4 * 20, 1 << 50, 1 << 63, 1<<64 - 1, p + 1, p + 2, p + 3}
	want := slices.Clone(roots)
	want[8] = 4
	if got := h.Collect(roots...); !slices.Equal(got, want) {
		t.Fatalf("%x, want %x", got, want)
	}
	wantWords(t, h, 0, head(2, 3, 1), 1<<63+5, 1<<63+6, False, head(7, 7, 7))
}

// P3.4: without roots nothing is left; what was laid ahead is no object any more, till one is laid there again.
func TestCollectNothing(t *testing.T) {
	h, p := graph(t, 64)
	for i := range 5 {
		if got := h.Collect(); len(got) != 0 || h.Times() != i+1 {
			t.Fatalf("%v, %d", got, h.Times())
		}
		wantWords(t, h, 0)
		for _, w := range p {
			holdNone(t, h, w, false)
		}
	}
	if got := h.Collect(p...); !slices.Equal(got, p) {
		t.Errorf("roots that are no objects any more: %v", got)
	}
	wantWords(t, h, 0)
	laid(t, h, 11, 1, 1)
	for i, w := range p {
		holdNone(t, h, w, i == 0)
	}
	wantWords(t, h, 0, head(11, 1, 1), False, 0)
}

// P3.2, P3.4: objects that are laid where others stood are as new: False and 0.
func TestLaidAnew(t *testing.T) {
	h := made(t, 40)
	for range 6 {
		p := laid(t, h, 7, 2, 30)
		for i := range 30 {
			setRaw(t, h, p, i, head(7, 1, 1))
		}
		set(t, h, p, 0, p)
		h.Collect()
		laid(t, h, 1, 10, 10)
		want := append([]uint64{0, head(1, 10, 10)}, append(slices.Repeat([]uint64{False}, 10), make([]uint64, 10)...)...)
		wantWords(t, h, want...)
		for w := range uint64(4 * 40) {
			holdNone(t, h, w, w == 4)
		}
		h.Collect()
	}
}

// P3.5: a collection twice over is the same as once, but for Times.
func TestCollectTwice(t *testing.T) {
	for first := range 6 {
		for second := range 6 {
			h, p := graph(t, 64)
			roots := h.Collect(p[first], 9, p[second])
			if (roots[0] == roots[2]) != (first == second) {
				t.Fatalf("%d, %d: %v", first, second, roots)
			}
			was := h.Words()
			for i := range 4 {
				again := h.Collect(roots...)
				if !slices.Equal(again, roots) || h.Times() != i+2 {
					t.Fatalf("%d, %d: %v, %v", first, second, roots, again)
				}
				wantWords(t, h, was...)
			}
		}
	}
}

// P3.5: what is reached may fill the half to its last word, and stays whole.
func TestCollectFull(t *testing.T) {
	h := made(t, 9)
	p := laid(t, h, 1, 2, 0)
	q := laid(t, h, 2, 1, 3)
	set(t, h, p, 1, q)
	set(t, h, q, 0, p)
	setRaw(t, h, q, 2, 77)
	if got := h.Collect(q, p); !slices.Equal(got, []uint64{4, 24}) {
		t.Fatalf("%v", got)
	}
	wantWords(t, h, 0, head(2, 1, 3), 24, 0, 0, 77, head(1, 2, 0), False, 4)
	if _, ok := h.Alloc(1, 0, 0); ok {
		t.Error("a word where there is none")
	}
}

// P3.4, R1: a chain as long as the greatest heap holds is copied, in order.
func TestLongChain(t *testing.T) {
	h := made(t, api.MaxWords)
	const links = (api.MaxWords - 1) / 3
	last := uint64(10)
	for i := range links {
		p := laid(t, h, 1, 2, 0)
		set(t, h, p, 0, uint64(i)*4+1)
		set(t, h, p, 1, last)
		last = p
	}
	h.Collect(last)
	if h.Used() != 1+3*links {
		t.Fatalf("Used %d", h.Used())
	}
	for i := range links {
		p := uint64(1+3*i) * 4
		next := p + 12
		if i == links-1 {
			next = 10
		}
		number, _ := h.Get(p, 0)
		cdr, _ := h.Get(p, 1)
		if number != uint64(links-1-i)*4+1 || cdr != next {
			t.Fatalf("link %d: %d, %d", i, number, cdr)
		}
	}
}
