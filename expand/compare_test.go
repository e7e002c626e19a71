package expand_test

import (
	"slices"
	"testing"

	"tandem/api"
	"tandem/expand"
	"tandem/show"
)

// dice is a row of numbers that is the same in each run.
type dice uint64

func (d *dice) below(n int) int {
	*d ^= *d << 13
	*d ^= *d >> 7
	*d ^= *d << 17
	return int(uint64(*d) >> 11 % uint64(n))
}

// seeds are all programs of the tests' tables.
func seeds() []string {
	var out []string
	for _, rows := range [][]row{plainRows(), letRows(), clauseRows(), bodyRows(), topRows(), macroRows(), literalRows(), hygieneRows(), ellipsisRows(), quasiRows()} {
		for _, r := range rows {
			out = append(out, r.program)
		}
	}
	for _, body := range bodies() {
		out = append(out, hygienic+body)
	}
	return slices.Concat(out, noMacroRows(), noPatternRows(), noUseRows(), noQuasiRows(), noFormRows(), noNameRows())
}

func toldData(data []api.Datum) string {
	var out string
	for _, d := range data {
		out += show.Write(d) + " "
	}
	return out
}

// compares wants what the model tells of a program, and tells the error.
func compares(t *testing.T, data []api.Datum) api.Errno {
	t.Helper()
	forms, at, e := expand.Program(data)
	wantForms, wantAt, wantE := modelProgram(data)
	if e != wantE || at != wantAt || toldAll(forms) != toldAll(wantForms) {
		t.Fatalf("%s\n%s, error %d at %d, not\n%s, error %d at %d", toldData(data), toldAll(forms), e, at, toldAll(wantForms), wantE, wantAt)
	}
	wellFormed(t, toldData(data), forms)
	return e
}

func TestSeeds(t *testing.T) {
	for _, s := range seeds() {
		compares(t, all(s))
	}
}

// pool is what programs are turned with.
type pool struct {
	dice
	programs [][]api.Datum
	pieces   []api.Datum
}

func newPool() *pool {
	p := &pool{}
	for _, s := range seeds() {
		data := all(s)
		p.programs = append(p.programs, data)
		for _, d := range data {
			p.gather(d)
		}
	}
	for _, w := range append(splitWords(keywords), "x", "y", "t", "m", "n", "f", "a", "car", "list", "foo") {
		p.pieces = append(p.pieces, symbol(w))
	}
	return p
}

func (p *pool) gather(d api.Datum) {
	p.pieces = append(p.pieces, d)
	for _, q := range partsOf(d) {
		p.gather(q)
	}
}

func (p *pool) piece() api.Datum { return p.pieces[p.below(len(p.pieces))] }

// turned is a datum in which something is another.
func (p *pool) turned(d api.Datum) api.Datum {
	n := len(d.Items)
	if d.Kind != api.List && d.Kind != api.Vector || n == 0 || p.below(8) == 0 {
		return p.other(d)
	}
	d.Items = slices.Clone(d.Items)
	i := p.below(n)
	if p.below(4) > 0 {
		d.Items[i] = p.turned(d.Items[i])
		return d
	}
	switch p.below(8) {
	case 0:
		d.Items = slices.Delete(d.Items, i, i+1)
	case 1:
		d.Items = slices.Insert(d.Items, i, p.piece())
	case 2:
		d.Items = slices.Insert(d.Items, i, d.Items[i])
	case 3:
		j := p.below(n)
		d.Items[i], d.Items[j] = d.Items[j], d.Items[i]
	case 4:
		d.Items[i] = list(d.Items[i])
	case 5:
		d.Items[i] = p.piece()
	case 6:
		d.Rest = []api.Datum{p.piece()}
	case 7:
		d.Kind = api.List + api.Vector - d.Kind
	}
	return d
}

func (p *pool) other(d api.Datum) api.Datum {
	if d.Kind == api.Symbol && p.below(3) > 0 {
		for range 50 {
			if q := p.piece(); q.Kind == api.Symbol {
				return q
			}
		}
	}
	return p.piece()
}

// renamedAll lets a symbol be another one wherever it stands.
func renamedAll(d api.Datum, from, to string) api.Datum {
	if d.Kind == api.Symbol && d.Text == from {
		d.Text = to
	}
	d.Items, d.Rest = slices.Clone(d.Items), slices.Clone(d.Rest)
	for i := range d.Items {
		d.Items[i] = renamedAll(d.Items[i], from, to)
	}
	for i := range d.Rest {
		d.Rest[i] = renamedAll(d.Rest[i], from, to)
	}
	return d
}

// program is one of the seeds, or two of them, turned here and there.
func (p *pool) program() []api.Datum {
	data := slices.Clone(p.programs[p.below(len(p.programs))])
	if p.below(3) == 0 {
		data = append(data, p.programs[p.below(len(p.programs))]...)
	}
	for range p.below(4) {
		if len(data) > 0 {
			i := p.below(len(data))
			data[i] = p.turned(data[i])
		}
	}
	if p.below(4) == 0 {
		from, to := p.other(symbol("")), p.other(symbol(""))
		for i := range data {
			data[i] = renamedAll(data[i], from.Text, to.Text)
		}
	}
	return data
}

// growing tells whether the model would take long: its macros are used without end.
func growing(e api.Errno) bool { return e == api.ErrSteps }

// P8.1, of programs of all kinds.
func TestAnyProgram(t *testing.T) {
	p := newPool()
	p.dice = 1
	count := map[api.Errno]int{}
	const rounds = 60000
	for range rounds {
		data := p.program()
		if _, _, e := expand.Program(data); growing(e) && count[e] > 20 {
			continue
		}
		count[compares(t, data)]++
	}
	for _, e := range []api.Errno{api.OK, api.ErrForm, api.ErrMatch, api.ErrName} {
		if count[e] < rounds/100 {
			t.Errorf("error %d: %d of %d", e, count[e], rounds)
		}
	}
}
