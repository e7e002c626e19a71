package pack_test

import (
	"bytes"
	"reflect"
	"slices"
	"testing"

	"tandem/api"
	"tandem/emit"
	"tandem/expand"
	"tandem/pack"
	"tandem/read"
)

// dice are numbers that look thrown, the same ones each time.
type dice uint64

func (d *dice) below(n int) int {
	*d ^= *d << 13
	*d ^= *d >> 7
	*d ^= *d << 17
	return int(uint64(*d>>11) % uint64(n))
}

// maker makes programs, most of which may be written.
type maker struct{ dice }

func (m *maker) number() int {
	return max(0, 1<<m.below(41)+m.below(3)-1) - m.below(2)*m.below(2)
}

func (m *maker) natural() int { return min(1<<40, max(0, m.number())) }

func (m *maker) signed() int {
	return max(-1<<39, min(1<<39, (m.natural()/2)*(1-2*m.below(2))+m.below(3)-1))
}

func (m *maker) text() string {
	b := make([]byte, m.below(4)*m.below(2))
	if m.below(60) == 0 {
		b = make([]byte, 120+m.below(20))
	}
	for i := range b {
		b[i] = byte(m.below(256))
	}
	return string(b)
}

func (m *maker) integer() api.Datum {
	mag := make([]uint32, m.below(4))
	for i := range mag {
		mag[i] = uint32(m.below(1<<32)) >> m.below(32)
	}
	for len(mag) > 0 && mag[len(mag)-1] == 0 {
		mag = mag[:len(mag)-1]
	}
	return limbs(len(mag) > 0 && m.below(2) == 1, mag...)
}

func (m *maker) datum(deep int) api.Datum {
	switch k := 1 + m.below(9); k {
	case api.Int:
		return m.integer()
	case api.String:
		return text(m.text())
	case api.Symbol:
		return symbol(m.text(), m.signed())
	case api.List, api.Vector:
		d := api.Datum{Kind: k, Items: m.data(deep - 1)}
		if rest := m.datum(0); k == api.List && len(d.Items) > 0 && m.below(3) == 0 && rest.Kind != api.List {
			d.Rest = []api.Datum{rest}
		}
		return d
	case api.Void:
		return void()
	default:
		return api.Datum{Kind: k, N: m.signed()}
	}
}

func (m *maker) data(deep int) []api.Datum {
	var all []api.Datum
	for range m.below(4) * min(1, max(0, deep)) {
		all = append(all, m.datum(deep))
	}
	return all
}

func (m *maker) proto() api.Proto {
	p := api.Proto{Name: m.text(), Args: m.natural(), Free: m.natural(), Rest: m.below(2) == 1, Consts: m.data(1 + m.below(5))}
	for range m.below(4) {
		p.Code = append(p.Code, api.Ins{Op: m.natural(), A: m.signed(), B: m.signed()})
	}
	for range m.below(3) {
		p.Names = append(p.Names, m.text())
	}
	return p
}

func (m *maker) program() []api.Proto {
	var ps []api.Proto
	for range m.below(4) {
		ps = append(ps, m.proto())
	}
	return ps
}

// turnNumber makes another of a number, mostly at an edge.
func (m *maker) turnNumber(n *int) {
	edges := []int{-1, 0, 1, 1 << 39, 1<<39 + 1, -1 << 39, -1<<39 - 1, 1 << 40, 1<<40 + 1, 1<<63 - 1, -1 << 63}
	*n = edges[m.below(len(edges))]
}

// turnDatum turns one field of a datum, or of a part.
func (m *maker) turnDatum(d *api.Datum) {
	parts := []*[]api.Datum{&d.Items, &d.Rest}[m.below(2)]
	if len(*parts) > 0 && m.below(3) > 0 {
		m.turnDatum(&(*parts)[m.below(len(*parts))])
		return
	}
	switch m.below(9) {
	case 0:
		d.Kind = m.below(13) - 1
	case 1:
		m.turnNumber(&d.N)
	case 2:
		d.Num.Neg = !d.Num.Neg
	case 3:
		d.Num.Mag = append(d.Num.Mag, uint32(m.below(2)))
	case 4:
		d.Text += "x"
	case 5:
		d.Items = append(d.Items, m.datum(1))
	case 6:
		d.Rest = append(d.Rest, m.datum(1))
	case 7:
		*d = nest(m.below(110), *d, inVector, inList)
	case 8:
		*parts = nil
	}
}

// turnProgram turns one thing of a program.
func (m *maker) turnProgram(ps []api.Proto) []api.Proto {
	if len(ps) == 0 {
		return []api.Proto{m.proto()}
	}
	p := &ps[m.below(len(ps))]
	switch n := m.below(8); {
	case n == 0:
		m.turnNumber(&p.Args)
	case n == 1:
		m.turnNumber(&p.Free)
	case n == 2:
		p.Rest = !p.Rest
	case n == 3 && len(p.Code) > 0:
		i := &p.Code[m.below(len(p.Code))]
		m.turnNumber([]*int{&i.Op, &i.A, &i.B}[m.below(3)])
	case n > 3 && len(p.Consts) > 0:
		m.turnDatum(&p.Consts[m.below(len(p.Consts))])
	}
	return ps
}

// turnBytes turns a few bytes; most of them then are no program's.
func (m *maker) turnBytes(b []byte) []byte {
	b = slices.Clone(b)
	for range 1 + m.below(2) {
		at := m.below(len(b) + 1)
		few := []byte{0, 1, 2, 5, 6, 7, 8, 9, 10, 127, 128, 129, 255}
		one := few[m.below(len(few))]
		switch {
		case m.below(3) == 0:
			b = slices.Insert(b, at, one)
		case at == len(b):
		case m.below(3) == 0:
			b = slices.Delete(b, at, at+1)
		case m.below(2) == 0:
			b[at] ^= 1 << m.below(8)
		default:
			b[at] = one
		}
	}
	return b
}

// writes wants of Write what the model says.
func writes(t *testing.T, ps []api.Proto) ([]byte, bool) {
	t.Helper()
	b, e := pack.Write(ps)
	if !mayBe(ps) {
		if e != api.ErrArg || b != nil {
			t.Fatalf("%+v: error %d, % x", ps, e, b)
		}
		return nil, false
	}
	if want := modelProgram(ps); e != api.OK || !bytes.Equal(b, want) {
		t.Fatalf("%+v: error %d, % x, not % x", ps, e, b, want)
	}
	if got, e := pack.Read(b); e != api.OK || !same(got, ps) {
		t.Fatalf("%+v: read again, error %d, %+v", ps, e, got)
	}
	return b, true
}

// reads wants of Read what the model says.
func reads(t *testing.T, b []byte) bool {
	t.Helper()
	ps, e := pack.Read(b)
	want, ok := modelRead(b)
	if !ok {
		if e != api.ErrCode || ps != nil {
			t.Fatalf("% x: error %d, %+v", b, e, ps)
		}
		return false
	}
	if e != api.OK || !same(ps, want) {
		t.Fatalf("% x: error %d, %+v, not %+v", b, e, ps, want)
	}
	if again, e := pack.Write(ps); e != api.OK || !bytes.Equal(again, b) {
		t.Fatalf("% x: written again, error %d, % x", b, e, again)
	}
	return true
}

// same takes none and an empty list for one.
func same(a, b []api.Proto) bool { return reflect.DeepEqual(bareProtos(a), bareProtos(b)) }

func bareProtos(ps []api.Proto) []api.Proto {
	all := append([]api.Proto{}, ps...)
	for i, p := range all {
		all[i].Code, all[i].Names = append([]api.Ins{}, p.Code...), append([]string{}, p.Names...)
		all[i].Consts = bareData(p.Consts)
	}
	return all
}

func bareData(data []api.Datum) []api.Datum {
	all := append([]api.Datum{}, data...)
	for i, d := range all {
		all[i].Num.Mag = append([]uint32{}, d.Num.Mag...)
		all[i].Items, all[i].Rest = bareData(d.Items), bareData(d.Rest)
	}
	return all
}

// Programs that are made and turned, and bytes of theirs that are turned, against the model.
func TestAgainstModel(t *testing.T) {
	m := maker{dice: 7}
	var taken, refused, read, unread int
	for range 20000 {
		ps := m.program()
		b, ok := writes(t, ps)
		if !ok {
			t.Fatalf("%+v may not be written", ps)
		}
		for range 3 {
			if reads(t, m.turnBytes(b)) {
				read++
			} else {
				unread++
			}
		}
		for range 3 {
			ps = m.turnProgram(ps)
		}
		if _, ok := writes(t, ps); ok {
			taken++
		} else {
			refused++
		}
	}
	if min(taken, refused, read, unread) < 3000 {
		t.Errorf("too few of a kind: %d, %d, %d, %d", taken, refused, read, unread)
	}
}

// Every byte of a program turned into every other, against the model.
func TestEachByteTurned(t *testing.T) {
	b := written(t, rich())
	for i := range b {
		for v := range 256 {
			turned := slices.Clone(b)
			turned[i] = byte(v)
			reads(t, turned)
		}
	}
}

// Bytes that look thrown, behind the head, against the model.
func TestThrownBytes(t *testing.T) {
	m := maker{dice: 99}
	read := 0
	for range 200000 {
		b := []byte("TAND")
		for range m.below(24) {
			b = append(b, byte(m.below(10)*m.below(2)))
		}
		if reads(t, b) {
			read++
		}
	}
	if read < 100 {
		t.Errorf("only %d read", read)
	}
}

// The code of sources goes there and back.
func TestCodeOfSources(t *testing.T) {
	for _, source := range []string{"", "5", api.Prelude, "(define (fact n) (if (= n 0) 1 (* n (fact (- n 1))))) (fact 25)", "(letrec ((f (lambda (x . y) (set! x f) (g y '(1 . \"a\") '#(#\\a b) car)))) f)", "(do ((i 0 (+ i 1))) ((= i -123456789012345678901234567890) i))"} {
		data, _, e := read.All(source)
		if e != api.OK {
			t.Fatalf("%s: error %d", source, e)
		}
		forms, _, e := expand.Program(data)
		if e != api.OK {
			t.Fatalf("%s: error %d", source, e)
		}
		ps, e := emit.Program(forms)
		if e != api.OK {
			t.Fatalf("%s: error %d", source, e)
		}
		if _, ok := writes(t, ps); !ok {
			t.Errorf("%s may not be written", source)
		}
	}
}
