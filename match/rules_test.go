package match_test

import (
	"cmp"
	"reflect"
	"runtime/debug"
	"slices"
	"strings"
	"testing"
	"unsafe"

	"tandem/api"
	"tandem/match"
	"tandem/show"
)

// room is the memory of a list, spare room too.
type room struct {
	from, to uintptr
	answered bool
}

func roomOf[T any](l []T) []room {
	if cap(l) == 0 {
		return nil
	}
	from := uintptr(unsafe.Pointer(unsafe.SliceData(l)))
	return []room{{from: from, to: from + uintptr(cap(l))*unsafe.Sizeof(*new(T))}}
}

// roomsOf are the rooms of all lists in data, those that are no parts too, and those in spare room.
func roomsOf(data []api.Datum) []room {
	all := roomOf(data)
	for _, d := range data[:cap(data)] {
		all = append(all, roomOf(d.Num.Mag)...)
		all = append(all, roomsOf(d.Items)...)
		all = append(all, roomsOf(d.Rest)...)
	}
	return all
}

func roomsOfBinds(binds []api.Bind) []room {
	all := roomOf(binds)
	for _, b := range binds[:cap(binds)] {
		all = append(all, roomsOf([]api.Datum{b.D})[1:]...)
		all = append(all, roomsOfBinds(b.Subs)...)
	}
	return all
}

// apart wants that the rooms of an answer neither share memory with each other nor with those that were handed in.
func apart(t *testing.T, answer, handed []room) {
	t.Helper()
	all := slices.Clone(handed)
	for _, r := range answer {
		all = append(all, room{r.from, r.to, true})
	}
	slices.SortFunc(all, func(a, b room) int { return cmp.Compare(a.from, b.from) })
	var answered, given uintptr // up to where there is such memory
	for _, r := range all {
		if r.from < answered || r.answered && r.from < given {
			t.Fatal("a list of an answer shares memory")
		}
		if r.answered {
			answered = max(answered, r.to)
		} else {
			given = max(given, r.to)
		}
	}
}

// roomy is the same datum, with spare room in all of its lists, and empty lists for none.
func roomy(d api.Datum) api.Datum {
	d.Num.Mag = append(make([]uint32, 0, len(d.Num.Mag)+2), d.Num.Mag...)
	d.Items, d.Rest = roomyAll(d.Items), roomyAll(d.Rest)
	return d
}

func roomyAll(data []api.Datum) []api.Datum {
	all := make([]api.Datum, 0, len(data)+2)
	for _, d := range data {
		all = append(all, roomy(d))
	}
	all[:len(data)+1][len(data)] = text("spare")
	return all
}

func roomyBinds(binds []api.Bind) []api.Bind {
	all := make([]api.Bind, 0, len(binds)+1)
	for _, b := range binds {
		b.D, b.Subs = roomy(b.D), roomyBinds(b.Subs)
		all = append(all, b)
	}
	all[:len(binds)+1][len(binds)] = plain("spare", text("spare"))
	return all
}

// wide is a datum, and the spare room of its lists, as one that can be compared.
func wide(d api.Datum) api.Datum {
	d.Num.Mag = slices.Clone(d.Num.Mag[:cap(d.Num.Mag)])
	d.Items, d.Rest = wideAll(d.Items), wideAll(d.Rest)
	return d
}

func wideAll(data []api.Datum) []api.Datum {
	var all []api.Datum
	for _, d := range data[:cap(data)] {
		all = append(all, wide(d))
	}
	return all
}

func wideBinds(binds []api.Bind) []api.Bind {
	var all []api.Bind
	for _, b := range binds[:cap(binds)] {
		b.D, b.Subs = wide(b.D), wideBinds(b.Subs)
		all = append(all, b)
	}
	return all
}

// R3: what is handed in stays as it is, answers are new memory, and hang on the former no more; spare room, and nil for empty lists, turn nothing.
func TestMatchMemory(t *testing.T) {
	count := 0
	for seed := range 4000 {
		d := dice(seed + 1)
		plainPattern := d.pattern(1+seed%5, names())
		plainForm := d.grown(plainPattern)
		pattern, form, literals := roomy(plainPattern), roomy(plainForm), roomyAll([]api.Datum{symbol("b"), marked("a", 1)})
		handed := []api.Datum{pattern, form, list(literals...)}
		before := wideAll(handed)
		vars, e := match.Vars(pattern, literals...)
		binds, ok := match.Match(pattern, form, literals...)
		if !reflect.DeepEqual(wideAll(handed), before) {
			t.Fatalf("%+v of %+v are turned", plainPattern, plainForm)
		}
		apart(t, append(roomsOfBinds(vars), roomsOfBinds(binds)...), append(roomsOf(handed), roomOf(literals)...))
		wantVars, wantE := match.Vars(plainPattern, symbol("b"), marked("a", 1))
		wantBinds, wantOK := match.Match(plainPattern, plainForm, symbol("b"), marked("a", 1))
		spoil(handed)
		if e != wantE || ok != wantOK || !sameBinds(vars, wantVars) || !sameBinds(binds, wantBinds) {
			t.Fatalf("%+v of %+v: %s, error %d; %s", plainPattern, plainForm, toldVars(vars), e, told(binds))
		}
		if ok {
			count++
		}
	}
	enough(t, count, 4000)
}

// spoil makes other data of all that is in these lists.
func spoil(data []api.Datum) {
	for _, d := range data {
		spoil(d.Items)
		spoil(d.Rest)
		for i := range d.Num.Mag {
			d.Num.Mag[i] += 77
		}
	}
	for i := range data {
		data[i] = text("spoilt")
	}
}

func TestFillMemory(t *testing.T) {
	count := 0
	for seed := range 4000 {
		d := dice(seed + 1)
		plainBinds := []api.Bind{d.bind("a", d.below(3)), d.bind("b", d.below(3)), d.bind("c", 0)}
		plainTemplate := d.template(1+seed%4, plainBinds)
		template, binds := roomy(plainTemplate), roomyBinds(plainBinds)
		handed := []api.Datum{template}
		before, beforeBinds := wideAll(handed), wideBinds(binds)
		got, e := match.Fill(template, binds)
		if !reflect.DeepEqual(wideAll(handed), before) || !reflect.DeepEqual(wideBinds(binds), beforeBinds) {
			t.Fatalf("%+v with %s are turned", plainTemplate, told(plainBinds))
		}
		apart(t, roomsOf([]api.Datum{got}), append(roomsOf(handed), roomsOfBinds(binds)...))
		want, wantE := match.Fill(plainTemplate, plainBinds)
		spoil(handed)
		spoilBinds(binds)
		if e != wantE || !alike(got, want) {
			t.Fatalf("%+v with %s: %s, error %d", plainTemplate, told(plainBinds), show.Write(got), e)
		}
		if e == api.OK {
			count++
		}
	}
	enough(t, count, 4000)
}

func spoilBinds(binds []api.Bind) {
	for i := range binds {
		spoilBinds(binds[i].Subs)
		spoil([]api.Datum{binds[i].D})
		binds[i] = plain("spoilt", text("spoilt"))
	}
}

// A datum that comes twice is two.
func TestTwiceIsTwo(t *testing.T) {
	big := integer(api.Num{Mag: []uint32{1, 2, 3}})
	form := list(list(big), vector(list()), dotted(list(big), big))
	d, e := match.Fill(one("(a a b ... b ... (a . a) #(b) ...)"), []api.Bind{plain("a", form), deep("b", plain("", form), plain("", form))})
	if e != api.OK {
		t.Fatalf("error %d", e)
	}
	apart(t, roomsOf([]api.Datum{d}), roomsOf([]api.Datum{form}))
	// The same list may be handed in several times.
	binds, ok := match.Match(one("(a b ... . c)"), dotted(form, form, form, form))
	if !ok {
		t.Fatal("no match")
	}
	apart(t, roomsOfBinds(binds), roomsOf([]api.Datum{form}))
}

// R4: other calls turn nothing.
func TestSameAgain(t *testing.T) {
	pattern, form := one("((a b ...) ... . c)"), one("((1 2 3) (4) . 5)")
	first := bound("((a b ...) ... . c)", "((1 2 3) (4) . 5)")
	for seed := range 200 {
		d := dice(seed + 1)
		p := d.pattern(4, names())
		binds, _ := match.Match(p, d.grown(p))
		match.Fill(d.template(3, binds), binds)
		meets(t, pattern, form, told(first))
		fills(t, one("(c (a b ...) ...)"), first, "(5 (1 2 3) (4))")
	}
}

// R1: data may be deeper than calls go, though calls have little room.
func TestVeryDeepData(t *testing.T) {
	const much = 100000
	defer debug.SetMaxStack(debug.SetMaxStack(1 << 20))
	for i, more := range around() {
		form := nested(much, whole(7), more)
		refused(t, form)
		fails(t, form, nil, api.ErrDeep)
		fails(t, symbol("x"), []api.Bind{plain("x", form)}, api.ErrSteps)
		binds, ok := match.Match(symbol("a"), form)
		if !ok || show.Write(binds[0].D) != show.Write(form) {
			t.Fatalf("%d: no match", i)
		}
		binds, ok = match.Match(one("(a . b)"), list(whole(1), form))
		if !ok || show.Write(binds[1].D) != show.Write(list(form)) {
			t.Fatalf("%d: no match", i)
		}
		parts(t, nested(20, whole(7), around()[0]), form)
		// Nor does what is no part take room.
		odd := api.Datum{Kind: api.Void, Items: []api.Datum{form}, Rest: []api.Datum{form}}
		wantsVars(t, odd, "")
		fills(t, list(odd, symbol("x")), []api.Bind{plain("x", odd)}, "(#<void> #<void>)")
	}
}

// R1: ellipses may be as many as binds are deep.
func TestVeryDeepBinds(t *testing.T) {
	const much = 100000
	defer debug.SetMaxStack(debug.SetMaxStack(1 << 20))
	b := plain("x", whole(5))
	for range much {
		b = deep("x", b)
	}
	template := one("(x" + strings.Repeat(" ...", 1000) + ")")
	for len(template.Items) <= much {
		template.Items = append(template.Items, symbol("..."))
	}
	fills(t, template, []api.Bind{b}, "(5)")
	template.Items = append(template.Items, symbol("..."))
	fails(t, template, []api.Bind{b}, api.ErrMatch)
}

// R1: long data take no longer than they are long.
func TestLongData(t *testing.T) {
	const long = 300000
	form := row(long)
	binds, ok := match.Match(one("(a ... b c)"), form)
	if !ok || len(binds[0].Subs) != long-2 {
		t.Fatal("no match")
	}
	binds, ok = match.Match(one("(a . b)"), form)
	if !ok || len(binds[1].D.Items) != long-1 {
		t.Fatal("no match")
	}
	pattern := list()
	for i := range long {
		pattern.Items = append(pattern.Items, marked("a", i+1))
	}
	binds, ok = match.Match(pattern, form)
	if !ok || len(binds) != long {
		t.Fatal("no match")
	}
	pattern.Items = append(pattern.Items, marked("a", 7))
	if _, e := match.Vars(pattern); e != api.ErrMatch {
		t.Fatalf("error %d", e)
	}
	fails(t, pattern, binds, api.ErrSteps)
	pattern.Items = pattern.Items[:api.MaxSteps-1]
	if d, e := match.Fill(pattern, binds); e != api.OK || len(d.Items) != api.MaxSteps-1 {
		t.Fatalf("error %d", e)
	}
}

// R1: arguments that are nothing.
func TestNothing(t *testing.T) {
	zero := api.Datum{}
	meets(t, zero, zero, "")
	parts(t, zero, list())
	wantsVars(t, zero, "")
	refused(t, zero, zero)
	fills(t, zero, nil, "#<void>")
	fills(t, zero, []api.Bind{{}}, "#<void>")
	fills(t, list(zero), []api.Bind{{}, {}}, "(#<void>)")
}
