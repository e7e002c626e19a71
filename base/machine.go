// Package base is layer 13: the baseline machine, which runs right code on the heap.
//
// Frames that run, or wait for those above them, stand in memory of the machine's own; call/cc lays them on the heap, from where each comes back when it goes on. Whatever tagged word the machine holds is a root of its collections, so an instruction holds none of its own over anything that may collect.
package base

import (
	"slices"

	"tandem/api"
	"tandem/check"
	"tandem/value"
)

// Bounds of what a run may be given.
const (
	leastWords = 64
	mostNumber = 1 << 40
)

// Machine is a machine: a store with a program that runs on it.
type Machine struct {
	*value.Store
	program
	stack
	pending
	handlers uint64 // a list, the first one that is asked first
	winds    uint64 // the innermost wind, or the empty list
	does     map[int]func(in api.Ins)
	controls map[int]control
	waits    map[int]func()
	bounds
	outcome api.Outcome
	out     []byte
	done    int
}

// bounds are the limits of a run, but for its words, which are the store's.
type bounds struct {
	fuel, output int
	forced       []int // ahead of which instructions there are collections still to come, rising
}

// New is a machine that has done nothing; ErrArg, if the limits may not be, and check's error, if the code is not right.
func New(ps []api.Proto, l api.Limits) (*Machine, api.Errno) {
	if l.Words < leastWords || l.Words > api.MaxWords || !mayBe(l.Fuel) || !mayBe(l.Output) {
		return nil, api.ErrArg
	}
	if _, _, e := check.Program(ps); e != api.OK {
		return nil, e
	}
	store, e := value.New(l.Words)
	if e != api.OK {
		return nil, e
	}
	m := &Machine{Store: store, program: load(ps), bounds: bounds{l.Fuel, l.Output, rising(l.Gc)}}
	m.stack, m.pending = stack{shelf: emptyList}, pending{callee: voidWord, value: voidWord}
	m.handlers, m.winds = emptyList, emptyList
	m.does, m.controls, m.waits = m.instructions(), m.controlPrimitives(), m.waitings()
	m.begin(0, voidWord)
	return m, api.OK
}

func mayBe(n int) bool { return n >= 0 && n <= mostNumber }

// rising are the numbers from 0 on, in new memory.
func rising(numbers []int) []int {
	all := slices.Sorted(slices.Values(numbers))
	least, _ := slices.BinarySearch(all, 0)
	return all[least:]
}

// Run is a whole run; of what New refuses it is Static, with the error.
func Run(ps []api.Proto, l api.Limits) api.Outcome {
	m, e := New(ps, l)
	if e != api.OK {
		return api.Outcome{How: api.Static, Err: e}
	}
	for m.Step(mostNumber) {
	}
	return m.Outcome()
}

// Step does at most n instructions, and tells whether the run goes on.
func (m *Machine) Step(n int) bool {
	m.spend()
	for ; n > 0 && m.goesOn(); n-- {
		m.force()
		m.instruction()
		m.settle()
		m.spend()
	}
	return m.goesOn()
}

func (m *Machine) goesOn() bool { return m.outcome.How == 0 }

// spend ends the run when its fuel is used up.
func (m *Machine) spend() {
	if m.done >= m.fuel {
		m.end(api.Fuel)
	}
}

// force makes the collections that are to be ahead of the next instruction.
func (m *Machine) force() {
	for len(m.forced) > 0 && m.forced[0] == m.done {
		m.forced = m.forced[1:]
		m.collect()
	}
}

func (m *Machine) instruction() {
	m.done++
	f := m.top()
	in := m.protos[f.code].code[f.pc]
	f.pc++
	m.does[in.Op](in)
}

// Outcome is how the run ended; ahead of that what went out so far.
func (m *Machine) Outcome() api.Outcome {
	o := m.outcome
	o.Output = string(m.out)
	return o
}

// Count is how many instructions were done.
func (m *Machine) Count() int { return m.done }
