package emit_test

import (
	"hash/fnv"
	"strconv"
	"strings"

	"tandem/api"
	"tandem/show"
)

// What programs are run with, by their core forms and by their code: what primitives come to is anything, but always the same of the same arguments, and what was asked of them is kept.

// world is what is outside of a program's frames.
type world struct {
	globals map[string]any
	trace   []string
	left    int // steps
	depth   int // calls
}

func newWorld() *world { return &world{globals: map[string]any{}, left: 3000} }

// Values are numbers, bools, and these.
type (
	primValue int
	atom      string // what is only looked at
	rowValue  []any  // what is left over of arguments
)

// How a run ends, other than with a value.
type (
	outOfFuel struct{}
	raised    string
	broken    string // that may never be
)

func (w *world) step() {
	w.left--
	if w.left < 0 {
		panic(outOfFuel{})
	}
}

func (w *world) enter() {
	w.depth++
	if w.depth > 400 {
		panic(outOfFuel{})
	}
}

func (w *world) leave() { w.depth-- }

func valueOf(d api.Datum) any {
	switch d.Kind {
	case api.Int:
		n, _ := strconv.Atoi(show.Write(d))
		return n
	case api.Bool:
		return d.N == 1
	case api.Proc:
		return primValue(d.N)
	}
	return atom(show.Write(d))
}

var void = atom("#<void>")

func (w *world) told(v any) string {
	switch x := v.(type) {
	case int:
		return strconv.Itoa(x)
	case bool:
		return strconv.FormatBool(x)
	case atom:
		return string(x)
	case primValue:
		return api.Prims()[x].Name
	case rowValue:
		return "(" + w.toldRow(x) + ")"
	case *closure:
		return "procedure " + x.head()
	case *function:
		return "procedure " + x.head()
	}
	panic(broken("no value"))
}

func (w *world) toldRow(values []any) string {
	var all []string
	for _, v := range values {
		all = append(all, w.told(v))
	}
	return strings.Join(all, " ")
}

// prim is what a primitive comes to.
func (w *world) prim(n int, args []any) any {
	w.step()
	name := api.Prims()[n].Name
	asked := name + " " + w.toldRow(args)
	w.trace = append(w.trace, asked)
	if len(args) == 2 {
		a, isA := args[0].(int)
		b, isB := args[1].(int)
		switch {
		case !isA || !isB:
		case name == "+":
			return a + b
		case name == "-":
			return a - b
		case name == "<":
			return a < b
		case name == "=":
			return a == b
		}
	}
	h := fnv.New32a()
	h.Write([]byte(asked))
	switch sum := int(h.Sum32() >> 3); sum % 5 {
	case 0, 1:
		return false
	case 2:
		return true
	default:
		return sum % 10
	}
}

func (w *world) global(name string) any {
	v, ok := w.globals[name]
	if !ok {
		panic(raised("unbound " + name))
	}
	return v
}

func (w *world) setGlobal(name string, v any, define bool) any {
	if !define {
		w.global(name)
	}
	w.trace = append(w.trace, name+" is "+w.told(v))
	w.globals[name] = v
	return void
}

// arguments are those of a procedure, if they are as many as it takes.
func (w *world) arguments(head string, args []any, least int, rest bool) []any {
	if len(args) < least || len(args) > least && !rest {
		panic(raised("arity " + head + " " + w.toldRow(args)))
	}
	own := append([]any{}, args[:least]...)
	if rest {
		own = append(own, append(rowValue{}, args[least:]...))
	}
	return own
}

// outcome is how a run ended.
type outcome struct {
	end   string
	fuel  bool
	trace []string
}

// ending runs something up to its end.
func (w *world) ending(run func() any) (o outcome, wrong string) {
	defer func() {
		o.trace = w.trace
		switch r := recover().(type) {
		case nil:
		case outOfFuel:
			o.fuel = true
		case raised:
			o.end = "raised " + string(r)
		case broken:
			wrong = string(r)
		default:
			panic(r)
		}
	}()
	o.end = w.told(run())
	return o, ""
}
