package check_test

import (
	"math"
	"slices"
	"testing"

	"tandem/api"
	"tandem/check"
)

func TestDepths(t *testing.T) {
	for _, x := range []struct {
		text string
		want []int
	}{
		{"const 0, return", []int{0, 1}},
		{"const 0, return, pop, 99", []int{0, 1, -1, -1}},
		{"jump 0", []int{0}},
		{"jump 2, 0, const 0, tail 0, const 0", []int{0, -1, 0, 1, -1}},
		{"jump 3, const 0, return, jump 1", []int{0, 0, 1, 0}},
		{"const 0, false 4, const 0, jump 5, const 0, return", []int{0, 1, 0, 1, 0, 1}},
		{"const 0, local 0, pick 1, global 0, setglo 0, define 0, box, unbox, setbox, pop, slide 1, return", []int{0, 1, 2, 3, 4, 4, 4, 4, 4, 3, 2, 1}},
		{"const 0, closure 0 0, loop, prim 0 2, const 0, const 0, const 0, call 3, const 0, store 0, return", []int{0, 1, 2, 2, 1, 2, 3, 4, 1, 2, 1}},
		// (do ((i 0 (+ i 1))) ((= i 3) i)) of layer 9.
		{"const 0, loop, local 0, const 1, prim 3 2, false 8, local 0, jump 13, local 0, const 1, prim 0 2, store 0, jump 1, slide 1, return", []int{0, 1, 1, 2, 3, 2, 1, 2, 1, 2, 3, 2, 1, 2, 1}},
	} {
		if got := check.Depths([]api.Proto{plain(x.text)}, 0); !slices.Equal(got, x.want) {
			t.Errorf("%s: %v, not %v", x.text, got, x.want)
		}
	}
}

func TestDepthsOfSeveral(t *testing.T) {
	f := api.Proto{Args: 2, Rest: true, Free: 1, Code: code("local 2, free 0, slide 3, tail 0, pop")}
	g := api.Proto{Args: 64, Code: code("tail 63")}
	ps := []api.Proto{plain("const 0, closure 1 1, return"), f, g}
	for p, want := range [][]int{{0, 1, 1}, {3, 4, 5, 2, -1}, {64}} {
		if got := check.Depths(ps, p); !slices.Equal(got, want) {
			t.Errorf("%d: %v, not %v", p, got, want)
		}
	}
	for _, p := range []int{-1, 3, 4, math.MaxInt, math.MinInt} {
		if got := check.Depths(ps, p); got != nil {
			t.Errorf("%d: %v", p, got)
		}
	}
	ps[2].Code = code("tail 64")
	for p := range ps {
		if got := check.Depths(ps, p); got != nil {
			t.Errorf("%d of a wrong one: %v", p, got)
		}
	}
	if got := check.Depths(nil, 0); got != nil {
		t.Errorf("%v of none", got)
	}
}

func TestDepthsOfLongWays(t *testing.T) {
	ps := []api.Proto{plain("const 0, return"), {Args: 5, Code: zigzag(api.MaxCode)}}
	got := check.Depths(ps, 1)
	if want := slices.Repeat([]int{5}, api.MaxCode); !slices.Equal(got, want) {
		t.Errorf("%d depths", len(got))
	}
	most := plain(repeat(api.MaxStack, "const 0") + "return")
	for pc, d := range check.Depths([]api.Proto{most}, 0) {
		if d != pc {
			t.Fatalf("%d at %d", d, pc)
		}
	}
}
