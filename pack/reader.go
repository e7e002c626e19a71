package pack

import (
	"math"

	"tandem/api"
)

// reader reads a program, or gives up by a panic, which Read recovers.
type reader struct {
	left  []byte
	parts int // how many the constants may still have
}

// refusal is what the reader gives up with.
const refusal = "pack: not the bytes of a program"

// must gives up, if that does not hold.
func must(holds bool) {
	if !holds {
		panic(refusal)
	}
}

func (r *reader) program() []api.Proto {
	must(string(r.take(len(head))) == head)
	const least = 7 // bytes of a proto: four of its head, and three counts
	ps := row(r.count(least), r.proto)
	must(len(r.left) == 0)
	return ps
}

func (r *reader) proto() api.Proto {
	var p api.Proto
	p.Name = r.text()
	p.Args = r.number()
	p.Rest = r.flag()
	p.Free = r.number()
	p.Code = row(r.count(3), r.instruction)
	p.Consts = r.data(api.MaxDepth)
	p.Names = row(r.count(1), r.text)
	return p
}

func (r *reader) instruction() api.Ins {
	var i api.Ins
	i.Op = r.number()
	i.A = r.signed()
	i.B = r.signed()
	return i
}

// data takes data off the parts ahead of making room for them, and goes no deeper than that.
func (r *reader) data(deep int) []api.Datum {
	n := r.count(1)
	r.spend(n)
	return row(n, func() api.Datum { return r.datum(deep) })
}

func (r *reader) datum(deep int) api.Datum {
	must(deep > 0)
	d := api.Datum{Kind: r.number()}
	switch d.Kind {
	case api.Int:
		d.Num = r.num()
	case api.Bool, api.Char, api.Proc:
		d.N = r.signed()
	case api.String:
		d.Text = r.text()
	case api.Symbol:
		d.Text = r.text()
		d.N = r.signed()
	case api.List:
		d.Items = r.data(deep - 1)
		d.Rest = r.rest(deep - 1)
	case api.Vector:
		d.Items = r.data(deep - 1)
	}
	must(fits(d))
	return d
}

func (r *reader) rest(deep int) []api.Datum {
	if !r.flag() {
		return nil
	}
	r.spend(1)
	return []api.Datum{r.datum(deep)}
}

func (r *reader) spend(parts int) {
	must(parts <= r.parts)
	r.parts -= parts
}

func (r *reader) num() api.Num {
	var n api.Num
	n.Neg = r.flag()
	n.Mag = row(r.count(1), r.limb)
	return n
}

func (r *reader) limb() uint32 {
	n := r.number()
	must(n <= math.MaxUint32)
	return uint32(n)
}

func (r *reader) text() string { return string(r.take(r.count(1))) }

func (r *reader) flag() bool {
	b := r.take(1)[0]
	must(b <= 1)
	return b == 1
}

// count is how many of something follow that have at least so many bytes each: no more than there are bytes for.
func (r *reader) count(least int) int {
	n := r.number()
	must(n <= len(r.left)/least)
	return n
}

func (r *reader) take(n int) []byte {
	must(n <= len(r.left))
	taken := r.left[:n]
	r.left = r.left[n:]
	return taken
}

// row is so many of what one reads, one behind the other.
func row[T any](n int, one func() T) []T {
	if n == 0 {
		return nil
	}
	all := make([]T, n)
	for i := range all {
		all[i] = one()
	}
	return all
}
