package fold

import (
	"slices"

	"tandem/api"
	"tandem/rcode"
)

// workOut puts what is known in the place of what works it out, and leaves out what is not reached, or not wanted.
func (f *folder) workOut() {
	s := f.study()
	w := s.wants()
	for i, in := range w.turned {
		if w.isWanted[i] && s.isWorkedOut(i) {
			w.turned[i] = f.load(in.A, s.things[i])
		}
	}
	f.Ins = w.turned
	f.keep(func(i int) bool { return w.isWanted[i] })
}

// isWorkedOut tells whether it is known exactly what an instruction writes that is no constant yet.
func (s *study) isWorkedOut(i int) bool {
	op := s.Ins[i].Op
	return s.things[i].how == exact && op != api.RConst && op != api.RRaw
}

// turned is an instruction by what is known; none, if it is not reached, or does nothing.
func (s *study) turned(i int) api.RIns {
	in, goes := s.Ins[i], s.courses[i]
	switch {
	case !s.isReached[i] || in.Op == api.RIf && goes == onward:
		return api.RIns{}
	case in.Op == api.RIf && goes == aside:
		return api.RIns{Op: api.RJump, A: in.B}
	case rcode.MayExit(in.Op) && goes == 0:
		return api.RIns{Op: api.RExit, E: in.E}
	case s.isWorkedOut(i):
		return api.RIns{Op: api.RConst, A: in.A}
	}
	return in
}

// wants are the origins that are wanted: instructions that do more than to write a register, and what holds what a wanted one reads.
type wants struct {
	*study
	turned   []api.RIns
	isWanted []bool
	found    []int // wanted ones that were not followed yet
	lastTo   []int // of exits, the last instruction that may go there
}

func (s *study) wants() *wants {
	w := &wants{study: s, isWanted: make([]bool, len(s.things)), lastTo: make([]int, len(s.Exits))}
	for e := range w.lastTo {
		w.lastTo[e] = none
	}
	for i := range s.Ins {
		in := s.turned(i)
		w.turned = append(w.turned, in)
		if in.Op != 0 && !isBare(in) {
			w.isWanted[i] = true
			w.want(i, rcode.Read(in)...)
			if rcode.MayExit(in.Op) {
				w.wantExit(i, in.E)
			}
		}
	}
	for len(w.found) > 0 {
		last := len(w.found) - 1
		origin := w.found[last]
		w.found = w.found[:last]
		w.follow(origin)
	}
	return w
}

// want lets an instruction want what registers hold ahead of it.
func (w *wants) want(i int, registers ...int) {
	for _, r := range registers {
		w.add(w.ahead(i, r))
	}
}

func (w *wants) add(origin int) {
	for origin >= len(w.isWanted) { // a meeting that nobody asked for yet
		w.isWanted = append(w.isWanted, false)
	}
	if !w.isWanted[origin] {
		w.isWanted[origin] = true
		w.found = append(w.found, origin)
	}
}

// follow adds what a wanted origin wants.
func (w *wants) follow(origin int) {
	if origin < len(w.Ins) {
		w.want(origin, rcode.Read(w.turned[origin])...)
		return
	}
	m := w.met(origin)
	for _, from := range w.ways[m.head] {
		w.add(w.behind(from, m.register))
	}
}

// wantExit lets an instruction want what its exit reads. Many may have one exit that reads much: behind another one of the same row, only what was written since is looked at.
func (w *wants) wantExit(i, e int) {
	all, last := w.exits[e], w.lastTo[e]
	w.lastTo[e] = i
	if last < w.heads[i] || i-last > len(all) {
		w.want(i, all...)
		return
	}
	for _, in := range w.Ins[last:i] {
		r := written(in)
		if _, isRead := slices.BinarySearch(all, r); isRead {
			w.want(i, r)
		}
	}
}
