package pack_test

import (
	"math/big"
	"slices"
	"strconv"

	"tandem/api"
)

// A second packer, another way: a program is a row of tokens, which the reader takes as lenient as can be; what it took must be a program that may be written, and be written as the same bytes.

// modelNumber puts a number's binary digits together seven by seven, from the right.
func modelNumber(n int) []byte {
	digits := strconv.FormatInt(int64(n), 2)
	var out []byte
	for len(digits) > 7 {
		out = append(out, modelGroup("1"+digits[len(digits)-7:]))
		digits = digits[:len(digits)-7]
	}
	return append(out, modelGroup(digits))
}

func modelGroup(digits string) byte {
	n, err := strconv.ParseUint(digits, 2, 8)
	if err != nil {
		panic(err)
	}
	return byte(n)
}

func modelSigned(v int) []byte {
	if v < 0 {
		return modelNumber(-2*v - 1)
	}
	return modelNumber(2 * v)
}

func modelBytes(s string) []byte { return append(modelNumber(len(s)), s...) }

func modelFlag(set bool) []byte {
	if set {
		return []byte{1}
	}
	return []byte{0}
}

// modelRow is how many there are, and each.
func modelRow[T any](all []T, one func(T) []byte) []byte {
	out := modelNumber(len(all))
	for _, x := range all {
		out = append(out, one(x)...)
	}
	return out
}

func modelDatum(d api.Datum) []byte {
	parts := [][]byte{modelNumber(d.Kind)}
	switch d.Kind {
	case api.Int:
		parts = append(parts, modelFlag(d.Num.Neg), modelRow(d.Num.Mag, func(l uint32) []byte { return modelNumber(int(l)) }))
	case api.String, api.Symbol:
		parts = append(parts, modelBytes(d.Text))
	case api.List, api.Vector:
		parts = append(parts, modelRow(d.Items, modelDatum))
	}
	if slices.Contains([]int{api.Bool, api.Char, api.Proc, api.Symbol}, d.Kind) {
		parts = append(parts, modelSigned(d.N))
	}
	if d.Kind == api.List {
		parts = append(parts, modelRow(d.Rest, modelDatum))
	}
	return slices.Concat(parts...)
}

func modelProto(p api.Proto) []byte {
	ins := func(i api.Ins) []byte { return slices.Concat(modelNumber(i.Op), modelSigned(i.A), modelSigned(i.B)) }
	return slices.Concat(modelBytes(p.Name), modelNumber(p.Args), modelFlag(p.Rest), modelNumber(p.Free), modelRow(p.Code, ins), modelRow(p.Consts, modelDatum), modelRow(p.Names, modelBytes))
}

func modelProgram(ps []api.Proto) []byte { return append([]byte("TAND"), modelRow(ps, modelProto)...) }

// mayBe tells by the chapter's words whether a program may be written.
func mayBe(ps []api.Proto) bool {
	parts := 0
	for _, p := range ps {
		if min(p.Args, p.Free) < 0 || max(p.Args, p.Free) > 1<<40 {
			return false
		}
		for _, i := range p.Code {
			if i.Op < 0 || i.Op > 1<<40 || min(i.A, i.B) < -1<<39 || max(i.A, i.B) > 1<<39 {
				return false
			}
		}
		for _, d := range p.Consts {
			if depthOf(d) > 100 || !mayBeDatum(d) {
				return false
			}
			parts += partsOf(d)
		}
	}
	return parts <= 20000
}

func depthOf(d api.Datum) int {
	deepest := 0
	for _, part := range slices.Concat(d.Items, d.Rest) {
		deepest = max(deepest, depthOf(part))
	}
	return deepest + 1
}

func partsOf(d api.Datum) int {
	all := 1
	for _, part := range slices.Concat(d.Items, d.Rest) {
		all += partsOf(part)
	}
	return all
}

func mayBeDatum(d api.Datum) bool {
	bare := api.Datum{Kind: d.Kind} // the same datum, with only what its kind has
	switch d.Kind {
	case api.Int:
		bare.Num = d.Num
	case api.Bool, api.Char, api.Proc:
		bare.N = d.N
	case api.String:
		bare.Text = d.Text
	case api.Symbol:
		bare.Text, bare.N = d.Text, d.N
	case api.List:
		bare.Items, bare.Rest = d.Items, d.Rest
	case api.Vector:
		bare.Items = d.Items
	case api.Void:
	default:
		return false
	}
	same := bare.N == d.N && bare.Num.Neg == d.Num.Neg && len(bare.Num.Mag) == len(d.Num.Mag) && bare.Text == d.Text && len(bare.Items) == len(d.Items) && len(bare.Rest) == len(d.Rest)
	return same && d.N >= -1<<39 && d.N <= 1<<39 && mayBeNum(d.Num) && mayBeRest(d) && !slices.ContainsFunc(slices.Concat(d.Items, d.Rest), func(d api.Datum) bool { return !mayBeDatum(d) })
}

func mayBeNum(n api.Num) bool {
	zeros := true
	for _, limb := range n.Mag {
		zeros = zeros && limb == 0
	}
	if zeros {
		return len(n.Mag) == 0 && !n.Neg
	}
	return n.Mag[len(n.Mag)-1] > 0
}

func mayBeRest(d api.Datum) bool {
	return len(d.Rest) == 0 || len(d.Rest) == 1 && len(d.Items) >= 1 && d.Rest[0].Kind != api.List
}

// lenient reads numbers of any length; bad says that there was no more, or that a number was beyond all use.
type lenient struct {
	b   []byte
	bad bool
}

func (l *lenient) next() byte {
	if len(l.b) == 0 {
		l.bad = true
		return 0
	}
	first := l.b[0]
	l.b = l.b[1:]
	return first
}

func (l *lenient) number() int {
	sum := new(big.Int)
	for shift := uint(0); ; shift += 7 {
		b := l.next()
		sum.Add(sum, new(big.Int).Lsh(big.NewInt(int64(b&127)), shift))
		if b < 128 {
			break
		}
	}
	if !sum.IsInt64() || sum.Int64() > 1<<50 {
		l.bad = true
		return 0
	}
	return int(sum.Int64())
}

func (l *lenient) signed() int {
	n := l.number()
	if n&1 == 0 {
		return n >> 1
	}
	return ^(n >> 1)
}

func (l *lenient) text() string {
	var out []byte
	for n := l.number(); n > 0 && !l.bad; n-- {
		out = append(out, l.next())
	}
	return string(out)
}

func lenientRow[T any](l *lenient, one func() T) []T {
	var all []T
	for n := l.number(); n > 0 && !l.bad; n-- {
		all = append(all, one())
	}
	return all
}

func (l *lenient) datum() api.Datum {
	d := api.Datum{Kind: l.number()}
	switch d.Kind {
	case api.Int:
		d.Num.Neg = l.next() != 0
		d.Num.Mag = lenientRow(l, func() uint32 { return uint32(l.number()) })
	case api.String:
		d.Text = l.text()
	case api.Symbol:
		d.Text, d.N = l.text(), l.signed()
	case api.Bool, api.Char, api.Proc:
		d.N = l.signed()
	case api.Vector:
		d.Items = lenientRow(l, l.datum)
	case api.List:
		d.Items, d.Rest = lenientRow(l, l.datum), lenientRow(l, l.datum)
	}
	return d
}

func (l *lenient) proto() api.Proto {
	var p api.Proto
	p.Name, p.Args, p.Rest, p.Free = l.text(), l.number(), l.next() != 0, l.number()
	p.Code = lenientRow(l, func() api.Ins { return api.Ins{Op: l.number(), A: l.signed(), B: l.signed()} })
	p.Consts, p.Names = lenientRow(l, l.datum), lenientRow(l, l.text)
	return p
}

// modelRead is the program of these bytes, and whether there is one.
func modelRead(b []byte) ([]api.Proto, bool) {
	if len(b) < 4 {
		return nil, false
	}
	l := &lenient{b: b[4:]}
	ps := lenientRow(l, l.proto)
	if l.bad || !mayBe(ps) || !slices.Equal(modelProgram(ps), b) {
		return nil, false
	}
	return ps, true
}
