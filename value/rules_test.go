package value_test

import (
	"reflect"
	"slices"
	"testing"

	"tandem/api"
	"tandem/value"
)

const mark = 0xabadcafe

// R1: nothing panics, and refusals are zero values, at any word of a heap of any objects.
func TestAnyWord(t *testing.T) {
	for seed := range 60 {
		d := dice(seed + 1)
		s := store(t, 300)
		d.scatter(s, 40)
		var raws []uint64
		for place := 1; place < s.Used(); place++ {
			for i := range s.Raws(uint64(place) * 4) {
				raws = append(raws, uint64(place)*4, uint64(i))
			}
		}
		for i := 0; i+1 < len(raws); i += 2 {
			if d.below(2) == 0 {
				s.SetRaw(raws[i], int(raws[i+1]), []uint64{0, 1, 2, 3, 8, 9, 1 << 62, 1<<63 - 1, 1 << 63, 1<<64 - 1}[d.below(10)])
			}
		}
		was := s.Words()
		for w := range uint64(4 * 310) {
			wantSound(t, s, w)
		}
		for range 100 {
			wantSound(t, s, uint64(d.below(1<<53))<<11|uint64(d.below(1<<11)))
		}
		wantWords(t, s, was...)
	}
}

// wantSound asks all tellers of a word: at most one of them knows it, and Take says the same.
func wantSound(t *testing.T, s *value.Store, w uint64) {
	t.Helper()
	bytes, isText := s.Bytes(w)
	n, isNumber := s.Num(w)
	name, isSymbol := s.Name(w)
	if !isText && bytes != nil || !isNumber && (n.Neg || n.Mag != nil) || !isSymbol && name != "" {
		t.Fatalf("%d: %q %v %q", w, bytes, n, name)
	}
	d, ok := s.Take(w, api.MaxSteps)
	if !ok && !reflect.DeepEqual(d, api.Datum{}) {
		t.Fatalf("%d: %+v", w, d)
	}
	if isText != (d.Kind == api.String) || isNumber != (d.Kind == api.Int) || isSymbol != (d.Kind == api.Symbol) {
		t.Fatalf("%d: %v %v %v, %+v", w, isText, isNumber, isSymbol, d)
	}
	if same, ends := s.Equal(w, w); !same || !ends || !s.Eqv(w, w) {
		t.Fatalf("%d is not itself", w)
	}
	s.Equal(w, 4)
}

// R3: lists that are handed in are neither changed, spare room included, nor kept.
func TestListsStay(t *testing.T) {
	s := store(t, 1000)
	room := func() []uint64 { return []uint64{fix(1), made(t)(s.Text(nil)), Empty, mark, mark} }
	for _, call := range []func(l ...uint64){
		func(l ...uint64) { made(t)(s.List(l...)) },
		func(l ...uint64) { made(t)(s.Vector(l...)) },
		func(l ...uint64) { s.Keep(l...) },
	} {
		made(t)(s.Intern("a"))
		l := room()
		was := slices.Clone(l)
		call(l[:3]...)
		if !slices.Equal(l, was) {
			t.Fatalf("%v turned into %v", was, l)
		}
		words := s.Words()
		clear(l)
		wantWords(t, s, words...)
	}
	b := []byte("abcdefghijkl")
	w := made(t)(s.Text(b[:9]))
	n := api.Num{Mag: []uint32{1, 2, 3, 0, 7, 7}}
	v := made(t)(s.Number(api.Num{Mag: n.Mag[:4]}))
	if string(b) != "abcdefghijkl" || !slices.Equal(n.Mag, []uint32{1, 2, 3, 0, 7, 7}) {
		t.Fatal("changed")
	}
	clear(b)
	clear(n.Mag)
	if got, _ := s.Bytes(w); string(got) != "abcdefghi" {
		t.Fatal("kept")
	}
	if got, _ := s.Num(v); !slices.Equal(got.Mag, []uint32{1, 2, 3}) {
		t.Fatal("kept")
	}
}

// R3: a datum that is handed in stays as it is.
func TestDataStay(t *testing.T) {
	s := store(t, 1000)
	fresh := func() api.Datum {
		spare := api.Datum{Kind: api.Int, N: mark}
		items := []api.Datum{list(text("a"), symbol("b")), integer(api.Num{Neg: true, Mag: []uint32{1, 2, 3, 0}}), spare}
		return api.Datum{Kind: api.List, N: 5, Text: "x", Items: items[:2], Rest: []api.Datum{vector(whole(1)), spare}[:1]}
	}
	d := fresh()
	made(t)(s.Put(d))
	if !reflect.DeepEqual(d, fresh()) || d.Items[:3][2].N != mark || d.Rest[:2][1].N != mark {
		t.Fatalf("%+v", d)
	}
}

// R3: answers are new memory, spare room too.
func TestAnswersAreNew(t *testing.T) {
	s := store(t, 1000)
	made(t)(s.Intern("a"))
	w := made(t)(s.Text([]byte("abcdefghi")))
	v := made(t)(s.Number(limbs(5)))
	was := s.Words()
	bytes, _ := s.Bytes(w)
	n, _ := s.Num(v)
	for i := range bytes[:cap(bytes)] {
		bytes[:cap(bytes)][i] = 'x'
	}
	for i := range n.Mag[:cap(n.Mag)] {
		n.Mag[:cap(n.Mag)][i] = mark
	}
	if got, _ := s.Bytes(w); string(got) != "abcdefghi" {
		t.Fatal("Bytes")
	}
	if got, _ := s.Num(v); !slices.Equal(got.Mag, limbs(5).Mag) {
		t.Fatal("Num")
	}
	wantWords(t, s, was...)
	roots := s.Keep(w, v)
	a := made(t)(s.Intern("a"))
	was = s.Words()
	for i := range roots[:cap(roots)] {
		roots[:cap(roots)][i] = mark
	}
	if made(t)(s.Intern("a")) != a {
		t.Fatal("Keep")
	}
	s.Keep()
	if name, _ := s.Name(made(t)(s.Intern("a"))); name != "a" || s.Used() != 6 {
		t.Fatal("Keep")
	}
}

// R3: no two lists of a datum that is taken share memory, though the value has one part twice.
func TestTakenIsNew(t *testing.T) {
	s := store(t, 1000)
	part := made(t)(s.Put(list(whole(1), integer(limbs(3)))))
	w := made(t)(s.Vector(part, part, made(t)(s.Cons(part, part)), laid(t, s, Condition, []uint64{False, part, part}, nil)))
	want, _ := s.Take(w, 100)
	got, _ := s.Take(w, 100)
	var lists [][]api.Datum
	var sizes [][]uint32
	var walk func(d api.Datum)
	walk = func(d api.Datum) {
		lists = append(lists, d.Items, d.Rest)
		sizes = append(sizes, d.Num.Mag)
		for _, p := range slices.Concat(d.Items, d.Rest) {
			walk(p)
		}
	}
	walk(got)
	seen := map[*api.Datum]bool{}
	for _, l := range lists {
		l = l[:cap(l)]
		for i := range l {
			if seen[&l[i]] {
				t.Fatal("two lists share memory")
			}
			seen[&l[i]] = true
		}
	}
	limb := map[*uint32]bool{}
	for _, l := range sizes {
		l = l[:cap(l)]
		for i := range l {
			if limb[&l[i]] {
				t.Fatal("two numbers share memory")
			}
			limb[&l[i]] = true
		}
	}
	if !reflect.DeepEqual(got, want) {
		t.Fatal("two answers")
	}
}

// R4: the same row of calls answers the same, whatever other stores do.
func TestSameAgain(t *testing.T) {
	run := func(other *value.Store) []uint64 {
		d := dice(5)
		s := store(t, 2000)
		for range 200 {
			if name := d.name(); other != nil {
				other.Intern(name)
			}
			if w, ok := s.Put(d.datum(4)); !ok || d.below(4) == 0 {
				s.Keep(w)
			}
		}
		return s.Words()
	}
	if !slices.Equal(run(nil), run(store(t, api.MaxWords))) {
		t.Fatal("two runs differ")
	}
}
