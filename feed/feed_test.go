package feed_test

import (
	"math"
	"slices"
	"testing"

	"tandem/api"
	"tandem/feed"
)

// at is a feed of one place, the same for all.
func at(mask, callee int) api.Feed { return api.Feed{Proto: 3, Pc: 4, Mask: mask, Callee: callee} }

func TestExamples(t *testing.T) {
	f := feed.New()
	f.See(0, 3, 1, 2)
	if got := f.At(0, 3); got != (api.Feed{Pc: 3, Mask: 6, Callee: -1}) {
		t.Errorf("%+v", got)
	}
	for i, want := range []int{7, 7, -2} {
		f.Call(0, 4, []int{7, 7, 8}[i])
		if got := f.At(0, 4); got != (api.Feed{Pc: 4, Callee: want}) {
			t.Errorf("%d: %+v", i, got)
		}
	}
}

func TestAtFirst(t *testing.T) {
	f := feed.New()
	for _, n := range numbers() {
		for _, pc := range numbers() {
			if got := f.At(n, pc); got != (api.Feed{Proto: n, Pc: pc, Callee: -1}) {
				t.Errorf("%d %d: %+v", n, pc, got)
			}
		}
	}
	if got := f.All(); len(got) != 0 {
		t.Errorf("asked only: %+v", got)
	}
}

func TestSee(t *testing.T) {
	rows := []struct {
		kinds []int
		mask  int
	}{
		{nil, 0}, {[]int{0}, 0}, {[]int{1}, 2}, {[]int{10}, 1 << 10}, {[]int{62}, 1 << 62}, {[]int{63}, 0}, {[]int{64}, 0}, {[]int{65}, 0},
		{[]int{-1}, 0}, {[]int{-63}, 0}, {[]int{math.MaxInt}, 0}, {[]int{math.MinInt}, 0}, {[]int{1 << 32, 1<<32 + 1}, 0},
		{[]int{1, 1, 1}, 2}, {[]int{3, 1, 2, 3}, 14}, {[]int{0, 5, -1, 6, 63, 62}, 32 | 64 | 1<<62},
	}
	for _, r := range rows {
		f := feed.New()
		f.See(3, 4, r.kinds...)
		if got := f.At(3, 4); got != at(r.mask, -1) {
			t.Errorf("%v: %+v", r.kinds, got)
		}
		if got := len(f.All()); got != min(r.mask, 1) {
			t.Errorf("%v: %d are told", r.kinds, got)
		}
	}
	f, mask := feed.New(), 0
	for k := 1; k <= 62; k++ {
		f.See(3, 4, k)
		mask |= 1 << k
		if got := f.At(3, 4); got != at(mask, -1) {
			t.Errorf("%d: %+v", k, got)
		}
	}
	if f.See(3, 4); f.At(3, 4) != at(math.MaxInt-1, -1) {
		t.Errorf("all kinds: %+v", f.At(3, 4))
	}
}

func TestCall(t *testing.T) {
	for _, r := range []struct {
		callees []int
		want    int
	}{
		{[]int{0}, 0}, {[]int{7}, 7}, {[]int{7, 7, 7}, 7}, {[]int{7, 8}, -2}, {[]int{7, 8, 7, 7}, -2}, {[]int{0, 1}, -2}, {[]int{1, 0}, -2},
		{[]int{-1}, -2}, {[]int{-2}, -2}, {[]int{-3}, -2}, {[]int{math.MinInt}, -2}, {[]int{math.MaxInt}, math.MaxInt},
		{[]int{-1, 5}, -2}, {[]int{5, -1}, -2}, {[]int{5, -2, 5}, -2}, {[]int{-1, -1}, -2}, {[]int{-7, -7}, -2},
	} {
		f := feed.New()
		for _, c := range r.callees {
			f.Call(3, 4, c)
		}
		if got := f.At(3, 4); got != at(0, r.want) || len(f.All()) != 1 {
			t.Errorf("%v: %+v", r.callees, got)
		}
	}
}

func TestSeeAndCallStandBesideEachOther(t *testing.T) {
	f := feed.New()
	f.Call(3, 4, 9)
	f.See(3, 4, 2)
	f.See(3, 5, 1)
	f.Call(4, 3, 1)
	want := []api.Feed{at(4, 9), {Proto: 3, Pc: 5, Mask: 2, Callee: -1}, {Proto: 4, Pc: 3, Callee: 1}}
	if got := f.All(); !slices.Equal(got, want) {
		t.Errorf("%+v", got)
	}
}

func TestEnter(t *testing.T) {
	f := feed.New()
	for i := 1; i <= 1000; i++ {
		if got := f.Enter(3, 4); got != i {
			t.Fatalf("%d: %d", i, got)
		}
	}
	for _, p := range [][2]int{{4, 3}, {3, 5}, {0, 0}, {-3, 4}, {math.MinInt, math.MaxInt}} {
		if f.Enter(p[0], p[1]) != 1 || f.Enter(p[0], p[1]) != 2 {
			t.Errorf("%v has counted others'", p)
		}
	}
	if len(f.All()) != 0 || f.At(3, 4) != at(0, -1) {
		t.Errorf("what was entered alone is told: %+v", f.All())
	}
	f.See(3, 4, 1)
	f.Call(3, 4, 2)
	f.Add(at(8, 3))
	if got := f.Enter(3, 4); got != 1001 || f.At(3, 4) != at(10, -2) {
		t.Errorf("%d, %+v", got, f.At(3, 4))
	}
}

func TestOrder(t *testing.T) {
	f := feed.New()
	ns := numbers()
	for i := range ns {
		for j := range ns {
			f.See(ns[len(ns)-1-i], ns[(j*7+3)%len(ns)], 1)
		}
	}
	slices.Sort(ns)
	var want []api.Feed
	for _, proto := range ns {
		for _, pc := range ns {
			want = append(want, api.Feed{Proto: proto, Pc: pc, Mask: 2, Callee: -1})
		}
	}
	for range 20 {
		if got := f.All(); !slices.Equal(got, want) {
			t.Fatalf("%+v", got)
		}
	}
}

func TestAdd(t *testing.T) {
	f := feed.New()
	f.Add()
	f.Add(at(0, -1), at(0, -1))
	if len(f.All()) != 0 {
		t.Errorf("nothing was said: %+v", f.All())
	}
	f.Add(at(2, 5), api.Feed{Proto: 1, Callee: -9}, at(4, -1))
	f.Add(at(1, 5), api.Feed{Pc: -1, Mask: math.MinInt, Callee: -1})
	want := []api.Feed{{Pc: -1, Mask: math.MinInt, Callee: -1}, {Proto: 1, Callee: -2}, at(7, 5)}
	if got := f.All(); !slices.Equal(got, want) {
		t.Errorf("%+v", got)
	}
	if f.Add(at(0, 6)); f.At(3, 4) != at(7, -2) {
		t.Errorf("%+v", f.At(3, 4))
	}
	if f.Enter(3, 4) != 1 {
		t.Error("Add counts as entering")
	}
}

// numbers are numbers of all sorts.
func numbers() []int {
	return []int{0, 1, 2, 10, -1, -2, -10, math.MaxInt, math.MinInt, math.MaxInt - 1, math.MinInt + 1, 1 << 32, -1 << 32}
}
