package expand_test

import (
	"cmp"
	"reflect"
	"runtime/debug"
	"slices"
	"testing"
	"unsafe"

	"tandem/api"
	"tandem/expand"
	"tandem/show"
)

// P8.2: all marks are 0, nothing else is turned.
func TestStrip(t *testing.T) {
	for _, x := range []struct{ d, want api.Datum }{
		{symbol("a"), symbol("a")}, {marked("a", 3), symbol("a")}, {marked("", -1), symbol("")}, {whole(5), whole(5)}, {text("a"), text("a")}, {api.Datum{Kind: api.Bool, N: 1}, api.Datum{Kind: api.Bool, N: 1}}, {api.Datum{Kind: api.Char, N: 65}, api.Datum{Kind: api.Char, N: 65}}, {api.Datum{Kind: api.Proc, N: 7, Text: "f"}, api.Datum{Kind: api.Proc, N: 7, Text: "f"}}, {api.Datum{}, api.Datum{}},
		{list(marked("a", 3), whole(1), list(marked("a", 4))), list(symbol("a"), whole(1), list(symbol("a")))}, {dotted(marked("b", 2), marked("a", 3)), dotted(symbol("b"), symbol("a"))}, {dotted(dotted(marked("b", 2))), dotted(dotted(symbol("b")))}, {vector(marked("a", 3), vector(marked("b", -2))), vector(symbol("a"), vector(symbol("b")))}, {condition(marked("a", 1), list(marked("b", 1))), condition(symbol("a"), list(symbol("b")))},
	} {
		if got := expand.Strip(x.d); !reflect.DeepEqual(got, x.want) {
			t.Errorf("%+v: %+v", x.d, got)
		}
		if got := expand.Strip(roomy(x.d)); !reflect.DeepEqual(got, x.want) {
			t.Errorf("%+v with spare room: %+v", x.d, got)
		}
	}
}

// P8.2: data that are handed in are stripped first.
func TestStrippedFirst(t *testing.T) {
	for _, s := range []string{"(let ((x 1)) (f x 'x))", "(if car x)", rules("(foo) ((_ foo x ...) (let ((t 1)) (list t x ...)))") + "(m foo t 2)", "`(a ,x)", "(define (f x) x)"} {
		want, _, _ := expand.Program(all(s))
		data := all(s)
		d := dice(7)
		for i := range data {
			data[i] = withMarks(data[i], &d)
		}
		if got, _, e := expand.Program(data); e != api.OK || toldAll(got) != toldAll(want) {
			t.Errorf("%s: %s, error %d", s, toldAll(got), e)
		}
	}
}

func withMarks(d api.Datum, at *dice) api.Datum {
	if d.Kind == api.Symbol {
		d.N = at.below(9) - 4
	}
	for i := range d.Items {
		d.Items[i] = withMarks(d.Items[i], at)
	}
	return d
}

// R1: data may be deeper than calls go, though calls have little room.
func TestVeryDeepData(t *testing.T) {
	const much = 200000
	defer debug.SetMaxStack(debug.SetMaxStack(1 << 20))
	for i, way := range ways() {
		d := nested(much, marked("a", 5), way)
		if got, want := show.Write(expand.Strip(d)), show.Write(d); got != want {
			t.Errorf("%d: %.60s", i, got)
		}
		ends(t, []api.Datum{d}, 0, api.ErrDeep)
		ends(t, []api.Datum{list(symbol("quote"), d)}, 0, api.ErrDeep)
		ends(t, []api.Datum{{Kind: api.Void, Items: []api.Datum{d}}}, 0, api.OK)
	}
}

// odd is any datum at all, at most that deep.
func (p *pool) odd(deep int) api.Datum {
	switch {
	case deep == 0 || p.below(6) == 0:
		return p.piece()
	case p.below(12) == 0:
		return api.Datum{Kind: p.below(14) - 2, N: p.below(5) - 2, Text: "x", Items: []api.Datum{p.piece()}, Rest: []api.Datum{p.piece(), p.piece()}[:p.below(3)]}
	}
	d := api.Datum{Kind: []int{api.List, api.List, api.List, api.Vector, api.Cond}[p.below(5)]}
	for range p.below(5) {
		d.Items = append(d.Items, p.odd(deep-1))
	}
	if p.below(6) == 0 {
		d.Rest = []api.Datum{p.odd(deep - 1), p.odd(deep - 1)}[:1+p.below(2)]
	}
	return d
}

// R1: whatever is handed in, and what comes of it is as it should be.
func TestOddData(t *testing.T) {
	p := newPool()
	p.dice = 3
	for range 20000 {
		data := p.program()
		for range 1 + p.below(2) {
			data = append(data, p.odd(4))
		}
		i := p.below(len(data))
		data[i] = p.buried(data[i])
		compares(t, data)
	}
}

// buried is a datum with an odd one somewhere in it.
func (p *pool) buried(d api.Datum) api.Datum {
	if len(d.Items) == 0 || p.below(5) == 0 {
		return p.odd(2)
	}
	d.Items = slices.Clone(d.Items)
	i := p.below(len(d.Items))
	d.Items[i] = p.buried(d.Items[i])
	return d
}

// room is the memory of a list, spare room too.
type room struct {
	from, to uintptr
	answered bool
}

func roomOf[T any](l []T) []room {
	if cap(l) == 0 {
		return nil
	}
	from := uintptr(unsafe.Pointer(unsafe.SliceData(l)))
	return []room{{from: from, to: from + uintptr(cap(l))*unsafe.Sizeof(*new(T))}}
}

func roomsOf(data []api.Datum) []room {
	all := roomOf(data)
	for _, d := range data[:cap(data)] {
		all = append(all, roomOf(d.Num.Mag)...)
		all = append(all, roomsOf(d.Items)...)
		all = append(all, roomsOf(d.Rest)...)
	}
	return all
}

func roomsOfCores(forms []api.Core) []room {
	all := roomOf(forms)
	for _, f := range forms[:cap(forms)] {
		all = append(all, roomOf(f.Vars)...)
		all = append(all, roomsOf(f.D)...)
		all = append(all, roomsOfCores(f.Subs)...)
	}
	return all
}

// apart wants that the rooms of an answer neither share memory with each other nor with those that were handed in.
func apart(t *testing.T, answer, handed []room) {
	t.Helper()
	all := slices.Clone(handed)
	for _, r := range answer {
		all = append(all, room{r.from, r.to, true})
	}
	slices.SortFunc(all, func(a, b room) int { return cmp.Compare(a.from, b.from) })
	var answered, given uintptr // up to where there is such memory
	for _, r := range all {
		if r.from < answered || r.answered && r.from < given {
			t.Fatal("a list of an answer shares memory")
		}
		if r.answered {
			answered = max(answered, r.to)
		} else {
			given = max(given, r.to)
		}
	}
}

// roomy is the same datum, with spare room in all of its lists, and empty lists for none.
func roomy(d api.Datum) api.Datum {
	d.Num.Mag = append(make([]uint32, 0, len(d.Num.Mag)+2), d.Num.Mag...)
	d.Items, d.Rest = roomyAll(d.Items), roomyAll(d.Rest)
	return d
}

func roomyAll(data []api.Datum) []api.Datum {
	all := make([]api.Datum, 0, len(data)+2)
	for _, d := range data {
		all = append(all, roomy(d))
	}
	all[:len(data)+1][len(data)] = text("spare")
	return all
}

// wide are data, and the spare room of their lists, as what can be compared.
func wide(data []api.Datum) []api.Datum {
	var all []api.Datum
	for _, d := range data[:cap(data)] {
		d.Num.Mag = slices.Clone(d.Num.Mag[:cap(d.Num.Mag)])
		d.Items, d.Rest = wide(d.Items), wide(d.Rest)
		all = append(all, d)
	}
	return all
}

// spoil makes other data of all that is in these lists.
func spoil(data []api.Datum) {
	for _, d := range data {
		spoil(d.Items)
		spoil(d.Rest)
		for i := range d.Num.Mag {
			d.Num.Mag[i] += 77
		}
	}
	for i := range data {
		data[i] = text("spoilt")
	}
}

// R3: what is handed in stays as it is, answers are new memory, and hang on the former no more; spare room, and nil for empty lists, turn nothing.
func TestMemory(t *testing.T) {
	p := newPool()
	p.dice = 5
	count := 0
	for range 6000 {
		plain := p.program()
		want, wantAt, wantE := expand.Program(plain)
		if wantE == api.ErrSteps {
			continue
		}
		told := toldAll(want)
		data := roomyAll(plain)
		before := wide(data)
		forms, at, e := expand.Program(data)
		if !reflect.DeepEqual(wide(data), before) {
			t.Fatalf("%s: turned", toldData(plain))
		}
		apart(t, roomsOfCores(forms), roomsOf(data))
		spoil(data)
		if e != wantE || at != wantAt || toldAll(forms) != told {
			t.Fatalf("%s: %s, error %d at %d", toldData(plain), toldAll(forms), e, at)
		}
		if e == api.OK {
			count++
		}
	}
	if count < 1000 {
		t.Errorf("%d programs", count)
	}
}

func TestStripMemory(t *testing.T) {
	p := newPool()
	p.dice = 9
	for range 3000 {
		data := roomyAll([]api.Datum{p.odd(4)})
		before := wide(data)
		got := []api.Datum{expand.Strip(data[0])}
		if !reflect.DeepEqual(wide(data), before) {
			t.Fatal("turned")
		}
		apart(t, roomsOf(got), roomsOf(data))
	}
}

// A datum that is handed in twice is two, and so is what a macro takes twice.
func TestTwiceIsTwo(t *testing.T) {
	d := one("'(1 2 #(3))")
	big := list(symbol("quote"), list(api.Datum{Kind: api.Int, Num: api.Num{Mag: []uint32{1, 2, 3}}}))
	data := append(all(rules("() ((_ x y ...) (list x x y ... y ... '(x y ...)))")), list(symbol("m"), d, d, big, big), d, d, list(symbol("case"), d, list(list(d, d), d)), list(symbol("quasiquote"), list(d, list(symbol("unquote"), d))))
	forms, _, e := expand.Program(data)
	if e != api.OK {
		t.Fatalf("error %d", e)
	}
	apart(t, roomsOfCores(forms), roomsOf(data))
}

// R4: other calls turn nothing.
func TestSameAgain(t *testing.T) {
	p := newPool()
	p.dice = 11
	programs := seeds()
	first := make([]string, len(programs))
	for round := range 3 {
		for i, s := range programs {
			forms, at, e := expand.Program(all(s))
			told := toldAll(forms) + string(rune('a'+int(e))) + string(rune('a'+at))
			if round == 0 {
				first[i] = told
			} else if told != first[i] {
				t.Errorf("%s: %s, not %s", s, told, first[i])
			}
			if i%10 == 0 {
				expand.Program(p.program())
			}
		}
	}
}
