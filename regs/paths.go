package regs

import (
	"tandem/api"
	"tandem/rcode"
)

// paths are the ways through code, gone backwards: places are looked for in rounds.
type paths struct {
	from   [][]int // of each place, those from which a run may come there
	rounds []int   // of each place, the round in which it was found last
	round  int
	found  []int // in this round
}

func pathsOf(ins []api.RIns) paths {
	p := paths{from: make([][]int, len(ins)), rounds: make([]int, len(ins))}
	for i, in := range ins {
		if rcode.GoesOn(in.Op) {
			p.from[i+1] = append(p.from[i+1], i)
		}
		if to := rcode.Place(&in); to != nil {
			p.from[*to] = append(p.from[*to], i)
		}
	}
	return p
}

// begin begins a round.
func (p *paths) begin() {
	p.round++
	p.found = p.found[:0]
}

func (p *paths) add(places ...int) {
	for _, i := range places {
		if !p.isFound(i) {
			p.rounds[i] = p.round
			p.found = append(p.found, i)
		}
	}
}

func (p *paths) isFound(i int) bool { return p.rounds[i] == p.round }

// spread adds the places from which a run may come to one that is found without an instruction in between at which it stops. It is given up, and tells so, when more than so many are found.
func (p *paths) spread(most int, isStop func(i int) bool) bool {
	next := 0
again:
	if len(p.found) > most {
		return false
	}
	if next == len(p.found) {
		return true
	}
	for _, i := range p.from[p.found[next]] {
		if !isStop(i) {
			p.add(i)
		}
	}
	next++
	goto again
}
