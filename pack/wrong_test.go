package pack_test

import (
	"bytes"
	"slices"
	"strings"
	"testing"

	"tandem/api"
	"tandem/pack"
)

// rich is a program with something of all.
func rich() []api.Proto {
	return []api.Proto{
		{Name: "f\x00", Args: 300, Free: 128, Rest: true, Code: []api.Ins{{Op: 1 << 40, A: -1 << 39, B: 1 << 39}, {Op: 127, A: -1, B: 1}, {A: 64, B: -64}}, Names: []string{"", "x"}},
		{},
		{Consts: []api.Datum{limbs(true, 1, 0, 1<<32-1), limbs(false), boolean(-7), char(300), text("a\xff"), symbol("", -1), symbol("s", 9), void(), proc(3), list(), vector(), dotted(void(), list(), text("\x00")), nest(20, whole(1), inList, inVector, inVector)}},
	}
}

// P10.2: bytes cut anywhere, or with bytes behind them.
func TestCutAndLonger(t *testing.T) {
	b := written(t, rich())
	for i := range b {
		refusedBytes(t, "cut", b[:i])
	}
	for i := range 256 {
		refusedBytes(t, "a byte more", append(b[:len(b):len(b)], byte(i)))
	}
	refusedBytes(t, "twice", append(b[:len(b):len(b)], b...))
}

// P10.1: what no program begins with.
func TestHeads(t *testing.T) {
	refusedBytes(t, "none", nil)
	refusedBytes(t, "empty", []byte{})
	for i := range 4 {
		for turn := 1; turn < 256; turn++ {
			b := raw(t, start+"00")
			b[i] ^= byte(turn)
			refusedBytes(t, "head", b)
		}
	}
	refusedBytes(t, "small letters", []byte("tand\x00"))
	refusedBytes(t, "a byte ahead", raw(t, "00 "+start+"00"))
}

// places are the bytes of programs, with a hole for a number each.
func places() []string {
	return []string{"_", "01 _ 00 00 00 00 00 00", "01 00 _ 00 00 00 00 00", "01 00 00 00 _ 00 00 00", "01 00 00 00 00 _ 00 00", "01 00 00 00 00 00 _ 00", "01 00 00 00 00 00 00 _", "01 00 00 00 00 01 _ 00 00 00 00", "01 00 00 00 00 01 00 _ 00 00 00", "01 00 00 00 00 01 00 00 _ 00 00",
		"01 00 00 00 00 00 00 01 _", "01 00 00 00 00 00 01 _ 00", "01 00 00 00 00 00 01 01 00 _ 00", "01 00 00 00 00 00 01 02 _ 00", "01 00 00 00 00 00 01 03 _ 00", "01 00 00 00 00 00 01 04 _ 00", "01 00 00 00 00 00 01 05 _ 00 00", "01 00 00 00 00 00 01 05 00 _ 00", "01 00 00 00 00 00 01 06 _ 00 00", "01 00 00 00 00 00 01 07 _ 00", "01 00 00 00 00 00 01 09 _ 00"}
}

// P10.1: numbers with more groups than are needed, or beyond 2^40, at all places.
func TestNumbersTold(t *testing.T) {
	for _, place := range places() {
		isKind := strings.HasSuffix(place, "01 _ 00")
		if _, e := pack.Read(raw(t, start+strings.Replace(place, "_", "00", 1))); (e == api.OK) == isKind {
			t.Errorf("%s: error %d", place, e)
		}
		for _, digits := range []string{"80 00", "80 80 00", "80 80 80 80 80 00", "80 80 80 80 80 80 00", "80 80 80 80 80 80 80 80 80 00", "81 80 80 80 80 20", "80 80 80 80 80 21", "80 80 80 80 80 40", "ff ff ff ff ff 7f", "80 80 80 80 80 80 01", "ff ff ff ff ff ff 7f", "80 80 80 80 80 80 80 80 80 01", "80 80 80 80 80 80 80 80 80 80 01", "80 80 80 80 80 80 80 80 80 80 80 80 80 80 80 80 01", "ff", "80", "ff ff ff ff ff ff ff ff ff ff ff ff"} {
			refusedBytes(t, place+" with "+digits, raw(t, start+strings.Replace(place, "_", digits, 1)))
		}
	}
	for _, digits := range []string{"81 00", "ff 00", "8d 80 00", "80 81 00", "85 80 80 80 80 00"} {
		refusedBytes(t, digits, raw(t, start+"01 00 "+digits+" 00 00 00 00 00"))
	}
}

// P10.1: counts of more than there is, the greatest too.
func TestCounts(t *testing.T) {
	b := raw(t, start+"01 00 00 00 00 00 00 00")
	for at := 4; at < len(b); at++ {
		if at == 6 || at == 7 || at == 8 { // Args, Rest, Free
			continue
		}
		for _, digits := range []string{"01", "02", "7f", "80 01", "80 80 01", "ff ff ff ff 07", "80 80 80 80 08", "ff ff ff ff ff 1f", "80 80 80 80 80 20"} {
			if at == 4 && digits == "01" {
				continue
			}
			refusedBytes(t, digits, slices.Concat(b[:at], raw(t, digits), b[at+1:]))
			refusedBytes(t, digits+" at the end", slices.Concat(b[:at], raw(t, digits)))
		}
	}
}

// P10.1: bytes that are 0 or 1.
func TestFlags(t *testing.T) {
	for _, place := range []string{"01 00 00 _ 00 00 00 00", "01 00 00 00 00 00 01 01 _ 01 05 00", "01 00 00 00 00 00 01 06 01 08 _ 08 00"} {
		for i := range 256 {
			b := raw(t, start+strings.Replace(place, "_", hexOf(i), 1))
			ps, e := pack.Read(b)
			isDot := strings.Contains(place, "06 01")
			if ok := i == 1 || i == 0 && !isDot; ok != (e == api.OK) || ok == (ps == nil) {
				t.Errorf("%s with %d: error %d", place, i, e)
			}
		}
		refusedBytes(t, place, raw(t, start+strings.Replace(place, "_", "81 00", 1)))
	}
	if b := raw(t, start+"01 00 00 00 00 00 01 06 01 08 00 00"); !readsAs(b, holding(list(void()))) {
		t.Error("a list without a Rest")
	}
}

func hexOf(b int) string { return string("0123456789abcdef"[b/16]) + string("0123456789abcdef"[b%16]) }

func readsAs(b []byte, ps []api.Proto) bool {
	got, e := pack.Read(b)
	want, f := pack.Write(ps)
	again, g := pack.Write(got)
	return e == api.OK && f == api.OK && g == api.OK && bytes.Equal(want, b) && bytes.Equal(again, b)
}

// P10.1: data of programs that may not be written.
func TestWrongData(t *testing.T) {
	for what, digits := range map[string]string{
		"kind 0": "00", "a condition": "0a", "a condition with all": "0a 01 78 01 08", "kind 11": "0b", "kind 0x81": "81 01", "the greatest kind": "80 80 80 80 80 20",
		"0 below 0": "01 01 00", "limb 0": "01 00 01 00", "limb 0 below 0": "01 01 01 00", "limb 0 at the end": "01 00 02 05 00", "two limbs 0": "01 00 02 00 00",
		"limb 2^32": "01 00 01 80 80 80 80 10", "limb 2^33 - 1": "01 00 01 ff ff ff ff 1f", "limb 2^40": "01 00 02 80 80 80 80 80 20 01", "limb 2^32 + 1 ahead": "01 00 02 81 80 80 80 10 01",
		"a Rest without items": "06 00 01 08", "an empty list in a Rest": "06 01 08 01 06 00 00", "a list in a Rest": "06 01 08 01 06 01 08 00", "a dotted list in a Rest": "06 01 08 01 06 01 08 01 08",
		"a vector's Rest": "07 01 08 01 08", "a vector's flag": "07 00 00", "a list without a flag": "06 00", "void with N": "08 00",
	} {
		refusedBytes(t, what, raw(t, start+"01 00 00 00 00 00 01 "+digits+" 00"))
		refusedBytes(t, what+" within", raw(t, start+"01 00 00 00 00 00 01 07 01 "+digits+" 00"))
		refusedBytes(t, what+" as a Rest", raw(t, start+"01 00 00 00 00 00 01 06 01 08 01 "+digits+" 00"))
		refusedBytes(t, what+" later", raw(t, start+"02 00 00 00 00 00 00 00 00 00 00 00 00 02 08 "+digits+" 00"))
	}
}

// around is the bytes of the program with that constant, told by digits.
func around(digits string) string { return start + "01 00 00 00 00 00 01 " + digits + " 00" }

// P10.1: data that are deeper than may be written; very deep ones end too.
func TestDepthsTold(t *testing.T) {
	for _, n := range []int{98, 99, 100, 101, 1000, 1000000} {
		for _, x := range []struct{ open, inner, close string }{
			{"07 01 ", "08 ", ""}, {"06 01 ", "08 ", "00 "}, {"07 01 ", "06 00 00 ", ""}, {"07 01 ", "07 00 ", ""},
		} {
			b := raw(t, around(strings.Repeat(x.open, n)+x.inner+strings.Repeat(x.close, n)))
			if _, e := pack.Read(b); (e == api.OK) != (n < 100) {
				t.Errorf("%s %d times: error %d", x.open, n, e)
			}
		}
		dots := raw(t, around(strings.Repeat("07 01 06 01 08 01 ", n/2)+"08"))
		if _, e := pack.Read(dots); (e == api.OK) != (n < 100) {
			t.Errorf("%d dots: error %d", n/2, e)
		}
		refusedBytes(t, "lists in Rests", raw(t, around(strings.Repeat("06 01 08 01 ", n)+"08")))
	}
}

// P10.1: constants of more parts than may be written.
func TestPartsTold(t *testing.T) {
	voids := func(n int) []byte { return bytes.Repeat([]byte{api.Void}, n) }
	const most = "a0 9c 01" // MaxSteps
	const more = "a1 9c 01"
	const less = "9f 9c 01"
	proto := raw(t, "00 00 00 00 00")
	for _, x := range []struct {
		what string
		ok   bool
		all  [][]byte
	}{
		{"constants", true, [][]byte{raw(t, start+"01"), proto, raw(t, most), voids(api.MaxSteps), {0}}},
		{"constants", false, [][]byte{raw(t, start+"01"), proto, raw(t, more), voids(api.MaxSteps + 1), {0}}},
		{"a vector", true, [][]byte{raw(t, start+"01"), proto, raw(t, "01 07"), raw(t, less), voids(api.MaxSteps - 1), {0}}},
		{"a vector", false, [][]byte{raw(t, start+"01"), proto, raw(t, "01 07"), raw(t, most), voids(api.MaxSteps), {0}}},
		{"a list", true, [][]byte{raw(t, start+"01"), proto, raw(t, "01 06"), raw(t, less), voids(api.MaxSteps - 1), {0, 0}}},
		{"a list with a Rest", false, [][]byte{raw(t, start+"01"), proto, raw(t, "01 06"), raw(t, less), voids(api.MaxSteps - 1), {1, api.Void, 0}}},
		{"two protos", true, [][]byte{raw(t, start+"02"), proto, raw(t, less), voids(api.MaxSteps - 1), {0}, proto, {1, api.Void, 0}}},
		{"two protos", false, [][]byte{raw(t, start+"02"), proto, raw(t, less), voids(api.MaxSteps - 1), {0}, proto, {2, api.Void, api.Void, 0}}},
	} {
		if _, e := pack.Read(slices.Concat(x.all...)); (e == api.OK) != x.ok || !x.ok && e != api.ErrCode {
			t.Errorf("%s: error %d", x.what, e)
		}
	}
}
