package fold

import (
	"slices"

	"tandem/api"
	"tandem/rcode"
)

// folder is code that is being made shorter.
type folder struct {
	api.Code
	protos []api.Proto
	consts map[thing]int // where constants of the code's own stand
	raws   map[int64]int
	exits  [][]int // the registers that exits read, rising
	not    int     // the primitive's number
}

func folderOf(ps []api.Proto, c api.Code) *folder {
	f := &folder{Code: c, protos: ps, consts: map[thing]int{}, raws: map[int64]int{}}
	for i, d := range c.Consts {
		place(f.consts, literal(d), i)
	}
	for i, n := range c.Raws {
		place(f.raws, n, i)
	}
	for _, e := range c.Exits {
		f.exits = append(f.exits, rcode.OfExit(e))
	}
	f.not = slices.IndexFunc(api.Prims(), func(p api.Prim) bool { return p.Name == "not" })
	return f
}

// place keeps where a key stands first; where that is, is answered.
func place[K comparable](places map[K]int, key K, at int) int {
	first, ok := places[key]
	if !ok {
		first, places[key] = at, at
	}
	return first
}

// load is the instruction that lets a register hold what is known exactly.
func (f *folder) load(register int, t thing) api.RIns {
	switch t.kind {
	case aRaw:
		at := place(f.raws, t.n, len(f.Raws))
		if at == len(f.Raws) {
			f.Raws = append(f.Raws, t.n)
		}
		return api.RIns{Op: api.RRaw, A: register, B: at}
	case aConstant:
		return api.RIns{Op: api.RConst, A: register, B: int(t.n), C: t.owner}
	}
	at := place(f.consts, t, len(f.Consts))
	if at == len(f.Consts) {
		f.Consts = append(f.Consts, t.datum())
	}
	return api.RIns{Op: api.RConst, A: register, B: at}
}

// keep leaves out all instructions but those that are wanted. What went to one that is left out goes on at the next one.
func (f *folder) keep(isWanted func(i int) bool) {
	places := make([]int, 0, len(f.Ins))
	n := 0
	for i := range f.Ins {
		places = append(places, n)
		if isWanted(i) {
			n++
		}
	}
	f.Ins = kept(f.Ins, isWanted)
	for i := range f.Ins {
		if to := rcode.Place(&f.Ins[i]); to != nil {
			*to = places[*to]
		}
	}
}

// kept are those of a list that are wanted, told by where they stand.
func kept[T any](list []T, isWanted func(i int) bool) []T {
	var all []T
	for i, x := range list {
		if isWanted(i) {
			all = append(all, x)
		}
	}
	return all
}
