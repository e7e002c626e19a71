package emit_test

import (
	"slices"
	"strconv"
	"strings"
	"testing"

	"tandem/api"
	"tandem/emit"
	"tandem/expand"
	"tandem/num"
	"tandem/read"
	"tandem/show"
)

func whole(n int64) api.Datum       { return api.Datum{Kind: api.Int, Num: num.Of(n)} }
func text(s string) api.Datum       { return api.Datum{Kind: api.String, Text: s} }
func symbol(s string) api.Datum     { return api.Datum{Kind: api.Symbol, Text: s} }
func boolean(n int) api.Datum       { return api.Datum{Kind: api.Bool, N: n} }
func list(d ...api.Datum) api.Datum { return api.Datum{Kind: api.List, Items: d} }
func dotted(rest api.Datum, d ...api.Datum) api.Datum {
	return api.Datum{Kind: api.List, Items: d, Rest: []api.Datum{rest}}
}
func vector(d ...api.Datum) api.Datum    { return api.Datum{Kind: api.Vector, Items: d} }
func condition(d ...api.Datum) api.Datum { return api.Datum{Kind: api.Cond, Text: "type", Items: d} }

// Makers of core forms, each with just the parts that its kind has.

func data(d api.Datum) api.Core   { return api.Core{Kind: api.CConst, D: []api.Datum{d}} }
func konst(n int64) api.Core      { return data(whole(n)) }
func local(v int) api.Core        { return api.Core{Kind: api.CLocal, N: v} }
func global(name string) api.Core { return api.Core{Kind: api.CGlobal, Name: name} }
func prim(name string) api.Core {
	n := slices.IndexFunc(api.Prims(), func(p api.Prim) bool { return p.Name == name })
	return api.Core{Kind: api.CPrim, N: n}
}
func choice(test, then, other api.Core) api.Core {
	return api.Core{Kind: api.CIf, Subs: []api.Core{test, then, other}}
}
func lambda(vars []int, body api.Core) api.Core {
	return api.Core{Kind: api.CLambda, Vars: vars, Subs: []api.Core{body}}
}
func call(subs ...api.Core) api.Core     { return api.Core{Kind: api.CCall, Subs: subs} }
func sequence(subs ...api.Core) api.Core { return api.Core{Kind: api.CSeq, Subs: subs} }
func setLocal(v int, value api.Core) api.Core {
	return api.Core{Kind: api.CSetLoc, N: v, Subs: []api.Core{value}}
}
func setGlobal(name string, value api.Core) api.Core {
	return api.Core{Kind: api.CSetGlo, Name: name, Subs: []api.Core{value}}
}
func define(name string, value api.Core) api.Core {
	return api.Core{Kind: api.CDefine, Name: name, Subs: []api.Core{value}}
}
func let(vars []int, subs ...api.Core) api.Core {
	return api.Core{Kind: api.CLet, Vars: vars, Subs: subs}
}
func rec(vars []int, subs ...api.Core) api.Core {
	return api.Core{Kind: api.CRec, Vars: vars, Subs: subs}
}
func loop(vars []int, subs ...api.Core) api.Core {
	return api.Core{Kind: api.CLoop, Vars: vars, Subs: subs}
}
func again(subs ...api.Core) api.Core { return api.Core{Kind: api.CAgain, Subs: subs} }

// vars are so many variables, from one on.
func vars(from, n int) []int {
	var all []int
	for i := range n {
		all = append(all, from+i)
	}
	return all
}

// many is a form so many times.
func many(n int, c api.Core) []api.Core {
	all := make([]api.Core, n)
	for i := range all {
		all[i] = c
	}
	return all
}

// words are what instructions are called, and how many operands each has.
func words() []string {
	return strings.Fields("none:0 const:1 local:1 free:1 global:1 setglo:1 define:1 box:0 unbox:0 setbox:0 closure:2 call:1 tail:1 return:0 jump:1 false:1 prim:2 pop:0 slide:1 store:1 loop:0 pick:1")
}

func toldIns(i api.Ins) string {
	word, operands, _ := strings.Cut(words()[i.Op], ":")
	for n, x := range []int{i.A, i.B} {
		switch {
		case strconv.Itoa(n) < operands:
			word += " " + strconv.Itoa(x)
		case x != 0:
			word += " ?" + strconv.Itoa(x)
		}
	}
	return word
}

func toldCode(p api.Proto) string {
	var all []string
	for _, i := range p.Code {
		all = append(all, toldIns(i))
	}
	return strings.Join(all, ", ")
}

// toldDatum parts what is shown alike: the unassigned mark, and primitives.
func toldDatum(d api.Datum) string {
	switch {
	case d.Kind == api.Symbol && d.N != 0:
		return "mark" + strconv.Itoa(d.N) + d.Text
	case d.Kind == api.Proc:
		return "prim" + strconv.Itoa(d.N) + d.Text
	}
	return show.Write(d)
}

func toldProto(p api.Proto) string {
	out := p.Name + "/" + strconv.Itoa(p.Args) + "/" + strconv.Itoa(p.Free)
	if p.Rest {
		out += "*"
	}
	for _, d := range p.Consts {
		out += " '" + toldDatum(d)
	}
	for _, n := range p.Names {
		out += " " + strconv.Quote(n)
	}
	return out + ": " + toldCode(p)
}

func toldAll(ps []api.Proto) string {
	var all []string
	for _, p := range ps {
		all = append(all, toldProto(p))
	}
	return strings.Join(all, "\n")
}

// forms are the core forms of a program.
func forms(t *testing.T, s string) []api.Core {
	t.Helper()
	all, _, e := read.All(s)
	if e != api.OK {
		t.Fatalf("%s: not read", s)
	}
	cores, _, e := expand.Program(all)
	if e != api.OK {
		t.Fatalf("%s: not expanded", s)
	}
	return cores
}

// made wants that code is made of forms, and that it may run.
func made(t *testing.T, cores ...api.Core) []api.Proto {
	t.Helper()
	ps, e := emit.Program(cores)
	if e != api.OK {
		t.Fatalf("%s: error %d", brief(cores), e)
	}
	if wrong := wrongCode(ps); wrong != "" {
		t.Fatalf("%s: %s\n%s", brief(cores), wrong, toldAll(ps))
	}
	return ps
}

// row is forms, and the code of their protos.
type row struct {
	cores []api.Core
	want  []string
}

func codes(t *testing.T, rows []row) {
	t.Helper()
	for _, r := range rows {
		var got []string
		for _, p := range made(t, r.cores...) {
			got = append(got, toldCode(p))
		}
		if !slices.Equal(got, r.want) {
			t.Errorf("%s:\n%s\nnot\n%s", brief(r.cores), strings.Join(got, "\n"), strings.Join(r.want, "\n"))
		}
	}
}

// refused wants an error, and nothing else.
func refused(t *testing.T, want api.Errno, cores ...api.Core) {
	t.Helper()
	if ps, e := emit.Program(cores); e != want || ps != nil {
		t.Errorf("%s: error %d, %d protos, not error %d", brief(cores), e, len(ps), want)
	}
}

// brief tells core forms, if they are few.
func brief(cores []api.Core) string {
	var out []string
	for _, c := range cores {
		out = append(out, toldCore(c, 6))
	}
	s := strings.Join(out, "; ")
	return s[:min(len(s), 1500)]
}

func toldCore(c api.Core, deep int) string {
	if deep == 0 {
		return ".."
	}
	kinds := strings.Fields("? const local global prim if lambda call seq set! setglo define let rec loop again")
	out := "?" + strconv.Itoa(c.Kind)
	if c.Kind > 0 && c.Kind < len(kinds) {
		out = kinds[c.Kind]
	}
	if c.Kind == api.CLocal || c.Kind == api.CSetLoc || c.Kind == api.CPrim {
		out += " " + strconv.Itoa(c.N)
	}
	if c.Name != "" {
		out += " " + c.Name
	}
	for _, v := range c.Vars[:min(len(c.Vars), 70)] {
		out += " " + strconv.Itoa(v)
	}
	for _, d := range c.D {
		s := show.Write(d)
		out += " '" + s[:min(len(s), 60)]
	}
	for _, sub := range c.Subs[:min(len(c.Subs), 20)] {
		out += " " + toldCore(sub, deep-1)
	}
	return "(" + out + ")"
}
