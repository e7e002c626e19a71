package pack_test

import (
	"bytes"
	"encoding/hex"
	"reflect"
	"strings"
	"testing"

	"tandem/api"
	"tandem/num"
	"tandem/pack"
)

// Makers of data, each with just the fields that its kind has.

func whole(n int64) api.Datum { return api.Datum{Kind: api.Int, Num: num.Of(n)} }
func limbs(neg bool, mag ...uint32) api.Datum {
	return api.Datum{Kind: api.Int, Num: api.Num{Neg: neg, Mag: mag}}
}
func boolean(n int) api.Datum { return api.Datum{Kind: api.Bool, N: n} }
func char(n int) api.Datum    { return api.Datum{Kind: api.Char, N: n} }
func proc(n int) api.Datum    { return api.Datum{Kind: api.Proc, N: n} }
func text(s string) api.Datum { return api.Datum{Kind: api.String, Text: s} }
func symbol(s string, mark int) api.Datum {
	return api.Datum{Kind: api.Symbol, Text: s, N: mark}
}
func void() api.Datum                 { return api.Datum{Kind: api.Void} }
func list(d ...api.Datum) api.Datum   { return api.Datum{Kind: api.List, Items: d} }
func vector(d ...api.Datum) api.Datum { return api.Datum{Kind: api.Vector, Items: d} }
func dotted(rest api.Datum, d ...api.Datum) api.Datum {
	return api.Datum{Kind: api.List, Items: d, Rest: []api.Datum{rest}}
}

// holding is a program of one proto with these constants and no code.
func holding(d ...api.Datum) []api.Proto { return []api.Proto{{Consts: d}} }

func many(n int, d api.Datum) []api.Datum {
	all := make([]api.Datum, n)
	for i := range all {
		all[i] = d
	}
	return all
}

// raw are the bytes that are told by hexadecimal digits, blanks between them.
func raw(t *testing.T, digits string) []byte {
	t.Helper()
	b, err := hex.DecodeString(strings.Join(strings.Fields(digits), ""))
	if err != nil {
		t.Fatal(err)
	}
	return b
}

const start = "54 41 4e 44 "

// goes wants that a program is written as these bytes, and read again from them.
func goes(t *testing.T, ps []api.Proto, digits string) {
	t.Helper()
	want := raw(t, digits)
	if b, e := pack.Write(ps); e != api.OK || !bytes.Equal(b, want) {
		t.Errorf("%+v: error %d, % x, not % x", ps, e, b, want)
	}
	if got, e := pack.Read(want); e != api.OK || !reflect.DeepEqual(got, ps) {
		t.Errorf("% x: error %d, %+v, not %+v", want, e, got, ps)
	}
}

// written are a program's bytes, of which it can be read again.
func written(t *testing.T, ps []api.Proto) []byte {
	t.Helper()
	b, e := pack.Write(ps)
	if e != api.OK {
		t.Fatalf("error %d", e)
	}
	if got, e := pack.Read(b); e != api.OK || !reflect.DeepEqual(got, ps) {
		t.Fatalf("error %d, or another program", e)
	}
	return b
}

func refusedProgram(t *testing.T, what string, ps []api.Proto) {
	t.Helper()
	if b, e := pack.Write(ps); e != api.ErrArg || b != nil {
		t.Errorf("%s: error %d, %d bytes", what, e, len(b))
	}
}

func refusedBytes(t *testing.T, what string, b []byte) {
	t.Helper()
	if ps, e := pack.Read(b); e != api.ErrCode || ps != nil {
		t.Errorf("%s: error %d, %d protos", what, e, len(ps))
	}
}

// The chapter's example.
func TestExample(t *testing.T) {
	code := []api.Ins{{Op: api.OpConst}, {Op: api.OpReturn}}
	goes(t, []api.Proto{{Code: code, Consts: []api.Datum{whole(5)}}}, "54 41 4e 44 01 00 00 00 00 02 01 00 00 0d 00 00 01 01 00 01 05 00")
}

// P10.1: numbers, by the count of arguments.
func TestNumbers(t *testing.T) {
	for _, x := range []struct {
		n      int
		digits string
	}{
		{0, "00"}, {1, "01"}, {127, "7f"}, {128, "80 01"}, {129, "81 01"}, {255, "ff 01"}, {256, "80 02"}, {300, "ac 02"},
		{1<<14 - 1, "ff 7f"}, {1 << 14, "80 80 01"}, {1<<21 - 1, "ff ff 7f"}, {1 << 21, "80 80 80 01"},
		{1<<28 - 1, "ff ff ff 7f"}, {1 << 28, "80 80 80 80 01"}, {1<<35 - 1, "ff ff ff ff 7f"}, {1 << 35, "80 80 80 80 80 01"},
		{1<<40 - 1, "ff ff ff ff ff 1f"}, {1 << 40, "80 80 80 80 80 20"}, {0x123456789a, "9a f1 d9 a2 a3 02"},
	} {
		goes(t, []api.Proto{{Args: x.n}}, start+"01 00 "+x.digits+" 00 00 00 00 00")
		goes(t, []api.Proto{{Free: x.n}}, start+"01 00 00 00 "+x.digits+" 00 00 00")
		goes(t, []api.Proto{{Code: []api.Ins{{Op: x.n}}}}, start+"01 00 00 00 00 01 "+x.digits+" 00 00 00 00")
	}
}

// P10.1: signed numbers, in instructions and in data.
func TestSignedNumbers(t *testing.T) {
	for _, x := range []struct {
		v      int
		digits string
	}{
		{0, "00"}, {-1, "01"}, {1, "02"}, {-2, "03"}, {2, "04"}, {63, "7e"}, {-64, "7f"}, {64, "80 01"}, {-65, "81 01"}, {65, "82 01"},
		{300, "d8 04"}, {-8192, "ff 7f"}, {8192, "80 80 01"}, {1<<39 - 1, "fe ff ff ff ff 1f"}, {-1 << 39, "ff ff ff ff ff 1f"}, {1 << 39, "80 80 80 80 80 20"},
	} {
		goes(t, []api.Proto{{Code: []api.Ins{{A: x.v}}}}, start+"01 00 00 00 00 01 00 "+x.digits+" 00 00 00")
		goes(t, []api.Proto{{Code: []api.Ins{{B: x.v}}}}, start+"01 00 00 00 00 01 00 00 "+x.digits+" 00 00")
		goes(t, holding(boolean(x.v)), start+"01 00 00 00 00 00 01 02 "+x.digits+" 00")
		goes(t, holding(char(x.v)), start+"01 00 00 00 00 00 01 03 "+x.digits+" 00")
		goes(t, holding(proc(x.v)), start+"01 00 00 00 00 00 01 09 "+x.digits+" 00")
		goes(t, holding(symbol("ab", x.v)), start+"01 00 00 00 00 00 01 05 02 61 62 "+x.digits+" 00")
	}
}

// P10.1: data of all kinds.
func TestData(t *testing.T) {
	for _, x := range []struct {
		d      api.Datum
		digits string
	}{
		{limbs(false), "01 00 00"}, {whole(5), "01 00 01 05"}, {whole(-5), "01 01 01 05"}, {whole(-128), "01 01 01 80 01"},
		{limbs(false, 1<<32-1), "01 00 01 ff ff ff ff 0f"}, {limbs(true, 0, 0, 1), "01 01 03 00 00 01"}, {limbs(false, 1<<31, 0, 200), "01 00 03 80 80 80 80 08 00 c8 01"},
		{boolean(0), "02 00"}, {boolean(1), "02 02"}, {char(97), "03 c2 01"}, {proc(38), "09 4c"},
		{text(""), "04 00"}, {text("a\x00\xff"), "04 03 61 00 ff"}, {symbol("", 0), "05 00 00"}, {symbol("", -1), "05 00 01"}, {symbol("x", 2), "05 01 78 04"},
		{list(), "06 00 00"}, {list(void()), "06 01 08 00"}, {list(list(), vector()), "06 02 06 00 00 07 00 00"}, {dotted(void(), void()), "06 01 08 01 08"},
		{dotted(vector(whole(1)), boolean(0), text("b")), "06 02 02 00 04 01 62 01 07 01 01 00 01 01"}, {list(dotted(text(""), list())), "06 01 06 01 06 00 00 01 04 00 00"},
		{vector(), "07 00"}, {vector(void(), list()), "07 02 08 06 00 00"}, {void(), "08"},
	} {
		goes(t, holding(x.d), start+"01 00 00 00 00 00 01 "+x.digits+" 00")
		goes(t, holding(void(), x.d, void()), start+"01 00 00 00 00 00 03 08 "+x.digits+" 08 00")
		goes(t, holding(vector(x.d, x.d)), start+"01 00 00 00 00 00 01 07 02 "+x.digits+" "+x.digits+" 00")
	}
}

// P10.1: protos, with all that they have.
func TestProtos(t *testing.T) {
	long := strings.Repeat("n", 200)
	for _, x := range []struct {
		ps     []api.Proto
		digits string
	}{
		{nil, "00"},
		{[]api.Proto{{}}, "01 00 00 00 00 00 00 00"},
		{[]api.Proto{{}, {}}, "02 00 00 00 00 00 00 00 00 00 00 00 00 00 00"},
		{[]api.Proto{{Name: "f\x00", Args: 3, Rest: true, Free: 4}}, "01 02 66 00 03 01 04 00 00 00"},
		{[]api.Proto{{Names: []string{"", "x", "\xff\x80"}}}, "01 00 00 00 00 00 00 03 00 01 78 02 ff 80"},
		{[]api.Proto{{Code: []api.Ins{{Op: 16, A: 38, B: 1}, {Op: 200, A: -300, B: -1}}}}, "01 00 00 00 00 02 10 4c 02 c8 01 d7 04 01 00 00"},
		{[]api.Proto{{Rest: true}, {Name: "g", Consts: []api.Datum{void()}, Names: []string{"y"}}}, "02 00 00 01 00 00 00 00 01 67 00 00 00 00 01 08 01 01 79"},
		{[]api.Proto{{Name: long, Names: []string{long}}}, "01 c8 01 " + strings.Repeat("6e", 200) + " 00 00 00 00 00 01 c8 01 " + strings.Repeat("6e", 200)},
	} {
		goes(t, x.ps, start+x.digits)
	}
}
