package feed_test

import (
	"slices"
	"testing"

	"tandem/api"
	"tandem/feed"
)

// R3: lists that are handed in are not changed, their spare room neither, and not kept.
func TestHandedIn(t *testing.T) {
	kinds := []int{2, 70, 1, 9, 9}
	feeds := []api.Feed{at(4, -9), {Proto: -1, Mask: 2, Callee: 5}, at(0, -1), at(8, 8)}
	kindsBefore, feedsBefore := slices.Clone(kinds), slices.Clone(feeds)
	f := feed.New()
	f.See(0, 0, kinds[:3]...)
	f.Add(feeds[:3]...)
	if !slices.Equal(kinds, kindsBefore) || !slices.Equal(feeds, feedsBefore) {
		t.Errorf("changed: %v, %+v", kinds, feeds)
	}
	before := f.All()
	clear(kinds)
	clear(feeds)
	if !slices.Equal(f.All(), before) {
		t.Errorf("kept: %+v, then %+v", before, f.All())
	}
}

// R3: what All answers is new memory, its spare room too.
func TestAnswered(t *testing.T) {
	f := feed.New()
	for pc := range 5 {
		f.See(1, pc, 1)
	}
	first, second := f.All(), f.All()
	clear(first[:cap(first)])
	if !slices.Equal(f.All(), second) || len(second) != 5 {
		t.Errorf("%+v", f.All())
	}
	f.See(1, 0, 2)
	f.See(0, 0, 2)
	if second[0] != (api.Feed{Proto: 1, Mask: 2, Callee: -1}) {
		t.Errorf("a later sight turned it: %+v", second)
	}
}

// R4: two tables have nothing in common.
func TestTablesApart(t *testing.T) {
	a, b := feed.New(), feed.New()
	a.See(3, 4, 1)
	a.Call(3, 4, 1)
	a.Enter(3, 4)
	b.Call(3, 4, 2)
	if a.At(3, 4) != at(2, 1) || b.At(3, 4) != at(0, 2) || b.Enter(3, 4) != 1 || a.Enter(3, 4) != 2 {
		t.Errorf("%+v, %+v", a.All(), b.All())
	}
}

// Asking turns nothing, and what says nothing is not told.
func TestAskingTurnsNothing(t *testing.T) {
	f := feed.New()
	f.At(3, 4)
	f.See(3, 4)
	f.See(3, 4, 0, 63)
	f.Add(at(0, -1))
	f.All()
	if len(f.All()) != 0 || f.Enter(3, 4) != 1 {
		t.Errorf("%+v", f.All())
	}
}
