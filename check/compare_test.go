package check_test

import (
	"slices"
	"testing"

	"tandem/api"
	"tandem/check"
)

// same wants that both checkers tell the same of a program.
func same(t *testing.T, ps []api.Proto) api.Errno {
	t.Helper()
	want := modelProgram(ps)
	if got := judged(ps...); got != want {
		t.Fatalf("%+v: %+v, not %+v", ps, got, want)
	}
	for p := -1; p <= len(ps); p++ {
		got := check.Depths(ps, p)
		if p < 0 || p == len(ps) || want.e != api.OK {
			if len(got) != 0 {
				t.Fatalf("%+v: depths %v", ps, got)
			}
			continue
		}
		if d := modelDepths(ps, p); !slices.Equal(got, d) {
			t.Fatalf("%+v: %v, not %v", ps, got, d)
		}
	}
	return want.e
}

// P11.1, P11.2: made programs are right.
func TestMade(t *testing.T) {
	m := maker{dice: 1}
	for range 3000 {
		if ps := m.program(); same(t, ps) != api.OK {
			t.Fatalf("%+v: %+v", ps, judged(ps...))
		}
	}
}

// P11.1, P11.2: made programs of which one thing or more was turned.
func TestTurned(t *testing.T) {
	m := maker{dice: 2}
	seen := map[api.Errno]int{}
	for n := range 40000 {
		ps := m.program()
		for range 1 + n%3 {
			m.turn(ps)
			if slices.ContainsFunc(ps, func(p api.Proto) bool { return len(p.Code) == 0 }) {
				break
			}
		}
		seen[same(t, ps)]++
	}
	for _, e := range []api.Errno{api.OK, api.ErrCode, api.ErrStack, api.ErrJump, api.ErrIndex, api.ErrKind} {
		if seen[e] < 200 {
			t.Errorf("error %d: %d times", e, seen[e])
		}
	}
}

// P11.1, P11.2: all short codes of some instructions.
func TestAllShort(t *testing.T) {
	all := code("const 0, local 0, setbox, pop, return, jump 0, jump 1, jump 2, jump 3, false 0, false 1, false 2, false 3, false 4, slide 1, store 0, pop 1, const 9")
	var short func(p api.Proto, n int)
	short = func(p api.Proto, n int) {
		if len(p.Code) > 0 {
			same(t, []api.Proto{p})
		}
		if n == 0 {
			return
		}
		for _, i := range all {
			next := p
			next.Code = append(slices.Clip(p.Code), i)
			short(next, n-1)
		}
	}
	short(api.Proto{Consts: voids(1)}, 4)
}

// P11.1: each instruction with operands of all kinds, at some depths.
func TestAllOperands(t *testing.T) {
	numbers := []int{-1 << 63, -1<<63 + 1, -1, 0, 1, 2, 3, 37, 38, 63, 64, 65, 84, 85, 91, 92, 4095, 4096, 4097, 65536, 1<<63 - 2, 1<<63 - 1}
	for op := -1; op < 24; op++ {
		for _, a := range numbers {
			for _, b := range numbers {
				for _, depth := range []int{0, 1, 2, 3, 65, 66} {
					f := api.Proto{Args: min(depth, 64), Free: 2, Code: code(repeat(depth-min(depth, 64), "const 0")), Consts: voids(2), Names: []string{"", "x"}}
					f.Code = append(f.Code, api.Ins{Op: op, A: a, B: b})
					f.Code = append(f.Code, code("loop, jump 0")...)
					ps := []api.Proto{plain("const 0, return"), f}
					if got, want := judged(ps...), modelProgram(ps); got != want {
						t.Fatalf("%d %d %d at %d: %+v, not %+v", op, a, b, depth, got, want)
					}
				}
			}
		}
	}
}
