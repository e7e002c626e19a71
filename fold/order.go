package fold

import (
	"tandem/api"
	"tandem/rcode"
)

// order is an order of instructions in which fewer of them jump.
type order struct {
	ins    []api.RIns
	isSole []bool // whether one jump leads to a place, and nothing else
	isPut  []bool
	places []int // where instructions stand by this order
	row    []int // those that stand, by it
}

// glue lets what one jump alone leads to stand in the place of that jump.
func (f *folder) glue() {
	n := len(f.Ins)
	o := order{ins: f.Ins, isSole: solesOf(f.Ins), isPut: make([]bool, n), places: make([]int, n)}
	for i := range f.Ins {
		if o.begins(i) && !o.isSole[i] {
			o.put(i)
		}
	}
	for i := range f.Ins { // where such jumps go round, the first one stays
		if o.begins(i) && !o.isPut[i] {
			o.put(i)
		}
	}
	if len(o.row) == n {
		return
	}
	var ins []api.RIns
	for _, i := range o.row {
		in := f.Ins[i]
		if to := rcode.Place(&in); to != nil {
			*to = o.places[*to]
		}
		ins = append(ins, in)
	}
	f.Ins = ins
}

// begins tells whether nothing goes on at a place from the one ahead of it.
func (o *order) begins(i int) bool {
	return i == 0 || !rcode.GoesOn(o.ins[i-1].Op)
}

// put puts instructions from a place on, up to where they end.
func (o *order) put(i int) {
	for {
		o.isPut[i], o.places[i] = true, len(o.row)
		in := o.ins[i]
		if in.Op == api.RJump && o.isSole[in.A] && !o.isPut[in.A] {
			i = in.A
			continue
		}
		o.row = append(o.row, i)
		if !rcode.GoesOn(in.Op) {
			return
		}
		i++
	}
}

// solesOf tells of each place whether one jump leads there, and nothing else.
func solesOf(ins []api.RIns) []bool {
	ways := make([]int, len(ins)+1)
	ways[0]++
	for i, in := range ins {
		if to := rcode.Place(&in); to != nil {
			ways[*to]++
		}
		if rcode.GoesOn(in.Op) {
			ways[i+1]++
		}
	}
	is := make([]bool, len(ins))
	for _, in := range ins {
		if in.Op == api.RJump && ways[in.A] == 1 {
			is[in.A] = true
		}
	}
	return is
}
