package emit

import "tandem/api"

// writer writes a proto. It embeds the writer around it: what it does not find in its own frame is asked there, when its closure is made.
type writer struct {
	*writer // nil, if it writes the program's own code
	*program
	number int // of its proto
	code   []api.Ins
	depth  int // how many slots the frame has where the next instruction stands
	names  places[string]
	free   places[int] // variables, as they stand in the closure
	consts constants
}

// begin begins a proto. (There are never more than MaxCode: there are fewer core forms.)
func (p *program) begin(around *writer) *writer {
	p.protos = append(p.protos, api.Proto{})
	return &writer{writer: around, program: p, number: len(p.protos) - 1}
}

// end keeps a proto, of which the head is given.
func (w *writer) end(head api.Proto) {
	head.Free = len(w.free.keys)
	head.Code = w.code
	head.Consts = w.consts.data
	head.Names = w.names.keys
	w.protos[w.number] = head
}

// put puts instructions behind those that are there.
func (w *writer) put(code ...api.Ins) {
	for _, i := range code {
		if w.long || len(w.code) == api.MaxCode {
			w.long = true
			return
		}
		w.code = append(w.code, i)
		w.depth += growth(i)
		w.long = w.depth > api.MaxStack
	}
}

// growth is by how many slots an instruction makes the frame longer.
func growth(i api.Ins) int {
	switch i.Op {
	case api.OpConst, api.OpLocal, api.OpFree, api.OpGlobal, api.OpPick:
		return 1
	case api.OpSetBox, api.OpFalse, api.OpPop, api.OpStore:
		return -1
	case api.OpCall, api.OpTail, api.OpSlide:
		return -i.A
	case api.OpClosure, api.OpPrim:
		return 1 - i.B
	}
	return 0
}

// jump puts a jump to a place that is not known yet, and answers where it stands.
func (w *writer) jump(op int) int {
	w.put(api.Ins{Op: op})
	return len(w.code) - 1
}

// land lets a jump go to the next instruction.
func (w *writer) land(jump int) {
	if !w.long {
		w.code[jump].A = len(w.code)
	}
}

// atMost tells that there is too much, if there is more of something than may be.
func (w *writer) atMost(most, n int) {
	if n > most {
		w.long = true
	}
}

// places numbers keys in the order in which they are first asked for.
type places[K comparable] struct {
	keys []K
	at   map[K]int
}

func (p *places[K]) of(key K) int {
	n, ok := p.at[key]
	if ok {
		return n
	}
	if p.at == nil {
		p.at = map[K]int{}
	}
	n = len(p.keys)
	p.at[key] = n
	p.keys = append(p.keys, key)
	return n
}
