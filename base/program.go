package base

import (
	"slices"

	"tandem/api"
)

// program is the code, and what it has come to hold: constants that are laid, and globals.
type program struct {
	protos  []proto
	globals []global
}

// proto is a procedure's code as the machine keeps it.
type proto struct {
	name    string
	args    int
	rest    bool
	code    []api.Ins
	consts  []constant
	globals []int // of each name the global's number
}

// global is a global variable, which has a value once it is defined.
type global struct {
	name    string
	word    uint64
	defined bool
}

// load is a program in memory of its own.
func load(ps []api.Proto) program {
	var p program
	numbers := map[string]int{}
	for _, from := range ps {
		to := proto{name: from.Name, args: from.Args, rest: from.Rest, code: slices.Clone(from.Code)}
		for _, d := range from.Consts {
			to.consts = append(to.consts, constantOf(d))
		}
		for _, name := range from.Names {
			to.globals = append(to.globals, p.numberOf(numbers, name))
		}
		p.protos = append(p.protos, to)
	}
	return p
}

// numberOf is the number of the global of that name, which gets one when it is first met.
func (p *program) numberOf(numbers map[string]int, name string) int {
	n, ok := numbers[name]
	if !ok {
		n = len(p.globals)
		numbers[name] = n
		p.globals = append(p.globals, global{name: name})
	}
	return n
}

func (p *program) eachRoot(visit func(w *uint64)) {
	for i := range p.globals {
		if g := &p.globals[i]; g.defined {
			visit(&g.word)
		}
	}
	for i := range p.protos {
		for k := range p.protos[i].consts {
			if c := &p.protos[i].consts[k]; c.state == isLaid {
				visit(&c.word)
			}
		}
	}
}
