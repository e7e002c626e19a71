package check_test

import (
	"strconv"
	"strings"
	"testing"

	"tandem/api"
	"tandem/check"
)

// words are what instructions are called in these tests, by their Op, with how many operands each has.
func words() []string {
	return strings.Fields("none0 const1 local1 free1 global1 setglo1 define1 box0 unbox0 setbox0 closure2 call1 tail1 return0 jump1 false1 prim2 pop0 slide1 store1 loop0 pick1")
}

func opOf(word string) int {
	for op, w := range words() {
		if w[:len(w)-1] == word {
			return op
		}
	}
	n, err := strconv.Atoi(word)
	if err != nil {
		panic(word)
	}
	return n
}

// code are instructions as they are told by a text: "const 0, return". What is no word is an Op's number.
func code(text string) []api.Ins {
	var all []api.Ins
	for part := range strings.SplitSeq(text, ",") {
		fields := strings.Fields(part)
		if len(fields) == 0 {
			continue
		}
		i := api.Ins{Op: opOf(fields[0])}
		for n, to := range []*int{&i.A, &i.B} {
			if n+1 < len(fields) {
				*to, _ = strconv.Atoi(fields[n+1])
			}
		}
		all = append(all, i)
	}
	return all
}

// repeat is a text of code, so often.
func repeat(n int, text string) string { return strings.Repeat(text+", ", n) }

func voids(n int) []api.Datum {
	all := make([]api.Datum, n)
	for i := range all {
		all[i].Kind = api.Void
	}
	return all
}

// plain is a proto with two constants and two names.
func plain(text string) api.Proto {
	return api.Proto{Code: code(text), Consts: voids(2), Names: []string{"x", "y"}}
}

// verdict is what is told of a program.
type verdict struct {
	proto, pc int
	e         api.Errno
}

func judged(ps ...api.Proto) verdict {
	proto, pc, e := check.Program(ps)
	return verdict{proto, pc, e}
}

// wants wants a verdict; of right programs that there are depths, of wrong ones that there are none.
func wants(t *testing.T, what string, want verdict, ps ...api.Proto) {
	t.Helper()
	if got := judged(ps...); got != want {
		t.Errorf("%s: %+v, not %+v", what, got, want)
	}
	for p := range ps {
		if n := len(check.Depths(ps, p)); want.e == api.OK && n != len(ps[p].Code) || want.e != api.OK && n != 0 {
			t.Errorf("%s: %d depths of proto %d", what, n, p)
		}
	}
}

// dice are numbers that look thrown, the same ones each time.
type dice uint64

func (d *dice) below(n int) int {
	*d ^= *d << 13
	*d ^= *d >> 7
	*d ^= *d << 17
	return int(uint64(*d>>11) % uint64(n))
}
