package ir

import (
	"tandem/api"
	"tandem/feed"
)

// How far building goes.
const (
	mostRuns    = 4       // through the bytecode
	mostInlined = 1000    // instructions of other procedures
	mostDeep    = 3       // of these within each other
	mostCells   = 1 << 21 // slots that exits, merges or waiting paths hold, each of these in all
)

// maker is what all builders of one code share.
type maker struct {
	*writer // of the run that is on
	facts
	protos  []api.Proto
	prims   []api.Prim
	seen    *feed.Table
	left    int // how many instructions may still be inlined
	longest int // how many values an instruction wants in a row at most
	merges  []*merge
	objects map[[2]int]int // by proto and constant, what was found of it: a constant may be long, and stand in many places
}

// What is found of a constant that is no literal.
const (
	unasked = iota
	laid
	refused
)

func makerOf(ps []api.Proto, feeds ...api.Feed) *maker {
	m := &maker{protos: ps, prims: api.Prims(), seen: feed.New(), left: mostInlined, objects: map[[2]int]int{}}
	m.seen.Add(feeds...)
	return m
}

// build is code for a frame of proto p; false, if it would be too long. Each run through the bytecode finds more slots that merges may be brought as raw numbers; the code of any run is right.
func (m *maker) build(p, entry, depth int) (c api.Code, ok bool) {
	first := m.builderOf(nil, p, none)
	first.survey(entry)
	for range mostRuns {
		m.run(first, entry, depth)
		if m.long {
			break
		}
		c, ok = m.whole(p, entry), true
		if !m.grow() {
			break
		}
	}
	return c, ok
}

// run goes through all the bytecode that is reached, and writes code for it.
func (m *maker) run(first *builder, entry, depth int) {
	m.writer = writerOf(depth)
	m.facts.forget()
	for _, x := range m.merges {
		x.at = none
	}
	p := path{builder: first, pc: entry, exit: none, from: none}
	for i := range depth {
		p.push(m.inRegister(asValue, i))
	}
	m.wait(p)
	for len(m.waiting) > 0 && !m.long {
		next := m.take()
		next.follow()
	}
}

// grow lets merges be brought more slots as raw numbers; false, if there are no more such.
func (m *maker) grow() bool {
	grown, worth := false, m.areWorth()
	for _, x := range m.merges {
		if x.grow(worth) {
			grown = true
		}
	}
	return grown
}
