package pack

import "tandem/api"

// writer writes what may be written; it asks no more whether it may.
type writer struct{ out []byte }

func (w *writer) program(ps []api.Proto) {
	w.out = append(w.out, head...)
	w.number(len(ps))
	for _, p := range ps {
		w.proto(p)
	}
}

func (w *writer) proto(p api.Proto) {
	w.text(p.Name)
	w.number(p.Args)
	w.flag(p.Rest)
	w.number(p.Free)
	w.number(len(p.Code))
	for _, i := range p.Code {
		w.number(i.Op)
		w.signed(i.A)
		w.signed(i.B)
	}
	w.data(p.Consts)
	w.number(len(p.Names))
	for _, name := range p.Names {
		w.text(name)
	}
}

func (w *writer) data(data []api.Datum) {
	w.number(len(data))
	for _, d := range data {
		w.datum(d)
	}
}

func (w *writer) datum(d api.Datum) {
	w.number(d.Kind)
	switch d.Kind {
	case api.Int:
		w.num(d.Num)
	case api.Bool, api.Char, api.Proc:
		w.signed(d.N)
	case api.String:
		w.text(d.Text)
	case api.Symbol:
		w.text(d.Text)
		w.signed(d.N)
	case api.List:
		w.data(d.Items)
		w.rest(d.Rest)
	case api.Vector:
		w.data(d.Items)
	}
}

func (w *writer) rest(rest []api.Datum) {
	w.flag(len(rest) > 0)
	for _, d := range rest {
		w.datum(d)
	}
}

func (w *writer) num(n api.Num) {
	w.flag(n.Neg)
	w.number(len(n.Mag))
	for _, limb := range n.Mag {
		w.number(int(limb))
	}
}

func (w *writer) text(s string) {
	w.number(len(s))
	w.out = append(w.out, s...)
}

func (w *writer) flag(set bool) {
	if set {
		w.out = append(w.out, 1)
		return
	}
	w.out = append(w.out, 0)
}
