package pack_test

import (
	"testing"

	"tandem/api"
)

// P10.1: numbers of protos and instructions, one beyond their edges and far beyond.
func TestNumbersTooFar(t *testing.T) {
	const least, most = -1 << 63, 1<<63 - 1
	for _, n := range []int{-1, -2, -1 << 39, -1 << 40, 1<<40 + 1, 1 << 41, 1 << 62, least, most} {
		refusedProgram(t, "Args", []api.Proto{{Args: n}})
		refusedProgram(t, "Free", []api.Proto{{}, {Free: n}})
		refusedProgram(t, "Op", []api.Proto{{Code: []api.Ins{{}, {Op: n}}}, {}})
	}
	for _, n := range []int{1<<39 + 1, -1<<39 - 1, 1 << 40, -1 << 40, 1 << 62, least, most} {
		refusedProgram(t, "A", []api.Proto{{Code: []api.Ins{{A: n}}}})
		refusedProgram(t, "B", []api.Proto{{Code: []api.Ins{{}, {B: n}}}, {}})
		for _, d := range []api.Datum{boolean(n), char(n), proc(n), symbol("a", n)} {
			refusedProgram(t, "N", holding(d))
			refusedProgram(t, "N within", holding(void(), list(vector(dotted(d, void())))))
		}
	}
}

// plainOf is a datum of each kind that is written, with all that it has.
func plainOf() []api.Datum {
	return []api.Datum{whole(7), limbs(true, 1, 2), boolean(1), char(2), text("t"), symbol("s", 3), list(void()), dotted(void(), void()), vector(void()), void(), proc(4), limbs(false), text(""), symbol("", 0), list(), vector()}
}

// P10.1: a field that a kind does not have is zero.
func TestStrayFields(t *testing.T) {
	for _, plain := range plainOf() {
		written(t, holding(plain))
		k := plain.Kind
		strays := map[string]api.Datum{}
		add := func(what string, has bool, turn func(d *api.Datum)) {
			if !has {
				d := plain
				turn(&d)
				strays[what] = d
			}
		}
		add("N", k == api.Bool || k == api.Char || k == api.Proc || k == api.Symbol, func(d *api.Datum) { d.N = 1 })
		add("N below 0", k == api.Bool || k == api.Char || k == api.Proc || k == api.Symbol, func(d *api.Datum) { d.N = -1 })
		add("Mag", k == api.Int, func(d *api.Datum) { d.Num.Mag = []uint32{1} })
		add("Mag 0", k == api.Int, func(d *api.Datum) { d.Num.Mag = []uint32{0} })
		add("Neg", k == api.Int, func(d *api.Datum) { d.Num.Neg = true })
		add("Text", k == api.String || k == api.Symbol, func(d *api.Datum) { d.Text = "x" })
		add("Items", k == api.List || k == api.Vector, func(d *api.Datum) { d.Items = []api.Datum{void()} })
		add("Rest", k == api.List && len(plain.Items) > 0, func(d *api.Datum) { d.Rest = []api.Datum{void()} })
		for what, d := range strays {
			refusedProgram(t, what, holding(d))
			refusedProgram(t, what+" within", holding(void(), vector(void(), d)))
			refusedProgram(t, what+" in a Rest", holding(dotted(d, void())))
			refusedProgram(t, what+" later", []api.Proto{{}, {Consts: []api.Datum{d}}, {}})
		}
	}
}

// P10.1: kinds of which no data are written.
func TestKindsThatAreNone(t *testing.T) {
	for _, k := range []int{0, -1, api.Cond, 11, 12, 128 + api.Int, 1 << 40, 1<<32 + api.Void, -1 << 63, 1<<63 - 1} {
		refusedProgram(t, "kind", holding(api.Datum{Kind: k}))
		refusedProgram(t, "kind within", holding(list(vector(api.Datum{Kind: k}))))
		refusedProgram(t, "kind in a Rest", holding(dotted(api.Datum{Kind: k}, void())))
	}
	refusedProgram(t, "a condition", holding(api.Datum{Kind: api.Cond, Text: "type", Items: []api.Datum{text("car"), whole(5)}}))
}

// P10.1: numbers that are not canonical.
func TestNumbersNotCanonical(t *testing.T) {
	for _, d := range []api.Datum{limbs(true), limbs(false, 0), limbs(true, 0), limbs(false, 1, 0), limbs(true, 5, 6, 0), limbs(false, 0, 0), limbs(false, 0, 1, 0, 0)} {
		refusedProgram(t, "number", holding(d))
		refusedProgram(t, "number within", holding(vector(whole(1), d)))
	}
	mag := make([]uint32, 3*api.MaxLimbs)
	mag[len(mag)-1] = 1
	written(t, holding(limbs(false, mag...), limbs(true, mag...)))
}

// P10.1: what may stand in a Rest, and where.
func TestRests(t *testing.T) {
	for _, d := range []api.Datum{whole(7), boolean(1), char(2), text("t"), symbol("s", 3), vector(void()), vector(), void(), proc(4), vector(list())} {
		written(t, holding(dotted(d, void())))
		written(t, holding(dotted(d, list(), list())))
		refusedProgram(t, "a Rest without Items", holding(dotted(d)))
		two := dotted(d, void())
		two.Rest = append(two.Rest, void())
		refusedProgram(t, "two in a Rest", holding(two))
		stray := vector(void())
		stray.Rest = []api.Datum{d}
		refusedProgram(t, "a vector's Rest", holding(stray))
	}
	for _, d := range []api.Datum{list(), list(void()), dotted(void(), void())} {
		refusedProgram(t, "a list in a Rest", holding(dotted(d, void())))
	}
}

// nest is a datum with so many ways around it, one behind the other and then again.
func nest(n int, d api.Datum, ways ...func(api.Datum) api.Datum) api.Datum {
	for i := range n {
		d = ways[i%len(ways)](d)
	}
	return d
}

func inList(d api.Datum) api.Datum   { return list(void(), d) }
func inVector(d api.Datum) api.Datum { return vector(d, void()) }

// inRest puts a vector around it first, where a list could not stand.
func inRest(d api.Datum) api.Datum { return vector(dotted(d, void())) }

// P10.1: how deep constants may be.
func TestDepths(t *testing.T) {
	for _, x := range []struct {
		most int // so many ways may be around a datum
		ways []func(api.Datum) api.Datum
	}{
		{99, []func(api.Datum) api.Datum{inList}},
		{99, []func(api.Datum) api.Datum{inVector}},
		{99, []func(api.Datum) api.Datum{inList, inVector}},
		{49, []func(api.Datum) api.Datum{inRest}},
	} {
		for _, d := range []api.Datum{void(), whole(5), list(), vector(), text("a")} {
			if d.Kind == api.List && x.most == 49 {
				continue
			}
			written(t, holding(nest(x.most, d, x.ways...)))
			refusedProgram(t, "too deep", holding(void(), nest(x.most+1, d, x.ways...)))
		}
	}
	inner := nest(98, void(), inVector)
	written(t, holding(dotted(inner, void())))
	refusedProgram(t, "too deep in a Rest", holding(dotted(vector(inner), void())))
	refusedProgram(t, "too deep in items", holding(vector(list(inner))))
}

// P10.1: how many parts all constants may have: each datum is one.
func TestParts(t *testing.T) {
	most := many(api.MaxSteps, void())
	fours := many(api.MaxSteps/4, dotted(void(), list(), vector())) // of four parts each
	for _, x := range []struct {
		what     string
		fit, not []api.Proto
	}{
		{"constants", holding(most...), holding(many(api.MaxSteps+1, void())...)},
		{"items of a vector", holding(vector(most[1:]...)), holding(vector(most...))},
		{"items of a list", holding(list(most[1:]...)), holding(list(most...))},
		{"a list beside", holding(list(most[2:]...), void()), holding(list(most[1:]...), void())},
		{"constants of protos", []api.Proto{{Consts: most[10:]}, {}, {Consts: most[:10]}}, []api.Proto{{Consts: most[10:]}, {}, {Consts: most[:11]}}},
		{"a constant of another proto", []api.Proto{{Consts: []api.Datum{vector(most[2:]...)}}, {Consts: most[:1]}}, []api.Proto{{Consts: []api.Datum{vector(most[1:]...)}}, {Consts: most[:1]}}},
		{"a Rest", holding(dotted(void(), most[2:]...)), holding(dotted(void(), most[1:]...))},
		{"many of a few", holding(fours...), holding(append(fours[:len(fours):len(fours)], void())...)},
		{"a Rest's own", holding(dotted(vector(most[3:]...), void())), holding(dotted(vector(most[2:]...), void()))},
	} {
		written(t, x.fit)
		refusedProgram(t, x.what, x.not)
	}
}

// What is no constant's part has no bound but that of numbers.
func TestMuch(t *testing.T) {
	names := make([]string, 3*api.MaxSteps)
	code := make([]api.Ins, 2*api.MaxCode)
	for i := range code {
		code[i] = api.Ins{Op: i, A: -i, B: i}
	}
	written(t, make([]api.Proto, 2*api.MaxCode))
	written(t, []api.Proto{{Code: code, Names: names, Name: string(make([]byte, 2*api.MaxText)), Consts: []api.Datum{text(string(make([]byte, 2*api.MaxText)))}}})
}
