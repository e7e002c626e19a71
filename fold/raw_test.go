package fold_test

import (
	"math/big"
	"testing"

	"tandem/api"
	"tandem/num"
)

// rawCode is code of raw numbers alone: they stand in registers 0 to 4, values in 5 to 9. It ends by an exit that reads two raw numbers, or returns the first one.
func rawCode(d *dice, length int) api.Code {
	var ins []api.RIns
	for r := range 5 {
		ins = append(ins, in(api.RRaw, r, d.below(6)))
	}
	for range length {
		a, b, c := d.below(5), d.below(5), d.below(5)
		switch d.below(8) {
		case 0:
			ins = append(ins, in(api.RRaw, a, d.below(6)))
		case 1:
			ins = append(ins, in(api.RMove, a, b))
		case 2:
			ins = append(ins, in(api.RBox, 5+a, b))
		case 3, 4, 5:
			ins = append(ins, exits(d.below(2), in(pick(d, api.RAdd, api.RSub, api.RAdd, api.RSub, api.RMul), a, b, c)))
		default:
			ins = append(ins, in(pick(d, api.RLess, api.RSame), 5+a, b, c))
		}
	}
	c := small(append(ins, in(api.RBox, 5, 0), pick(d, exits(1, in(api.RExit)), in(api.RReturn, 5)))...)
	for e, slots := range [][]api.Loc{{{Kind: api.InRaw, N: 1}, {Kind: api.InRaw, N: 2}}, {{Kind: api.InRaw, N: 3}, {Kind: api.InRaw, N: 3}}} {
		c.Exits[e].Frames[0].Slots = slots
	}
	return c
}

// rawEnd works out code of raw numbers: the registers that are wanted where it ends, and their numbers.
func rawEnd(c api.Code) map[int]*big.Int {
	held := map[int]*big.Int{}
	wanted := func(i int) map[int]*big.Int {
		all := map[int]*big.Int{}
		for _, r := range readsOf(c, i) {
			all[r] = held[r]
		}
		return all
	}
	for i, x := range c.Ins {
		n := new(big.Int)
		switch x.Op {
		case api.RRaw:
			n.SetInt64(c.Raws[x.B])
		case api.RMove, api.RBox:
			n.Set(held[x.B])
		case api.RAdd:
			n.Add(held[x.B], held[x.C])
		case api.RSub:
			n.Sub(held[x.B], held[x.C])
		case api.RMul:
			n.Mul(held[x.B], held[x.C])
		case api.RReturn, api.RExit:
			return wanted(i)
		default:
			continue
		}
		if n.Cmp(big.NewInt(1<<61-1)) > 0 || n.Cmp(big.NewInt(-1<<61)) < 0 {
			c.Ins = []api.RIns{exits(x.E, in(api.RExit))}
			return wanted(0)
		}
		held[x.A] = n
	}
	return nil
}

// TestRawsAlone: P16.3, by a second way to work the numbers out.
func TestRawsAlone(t *testing.T) {
	d := &dice{521288629}
	ps := roomy(t)
	ends := map[int]int{}
	for i := range 4000 {
		code := rawCode(d, i%30)
		want := rawEnd(code)
		got := folded(t, ps, code)
		if len(got.Ins) != len(want)+1 {
			t.Fatalf("%d are wanted: %s\nof %s", len(want), told(got), told(code))
		}
		ends[got.Ins[len(want)].Op]++
		for _, x := range got.Ins[:len(want)] {
			n, ok := want[x.A]
			delete(want, x.A)
			switch x.Op {
			case api.RRaw:
				ok = ok && n.IsInt64() && n.Int64() == got.Raws[x.B]
			case api.RConst:
				ok = ok && x.C == 0 && num.Text(got.Consts[x.B].Num) == n.String()
			}
			if !ok {
				t.Fatalf("%d is not %v: %s\nof %s", x.A, n, told(got), told(code))
			}
		}
	}
	if ends[api.RExit] < 500 || ends[api.RReturn] < 500 {
		t.Errorf("%v", ends)
	}
}
