package show_test

import (
	"fmt"
	"strings"
	"testing"

	"tandem/api"
	"tandem/num"
	"tandem/show"
)

// model tells a datum in a second way, by the chapter's words.
func model(d api.Datum, display bool) string {
	switch d.Kind {
	case api.Int:
		return num.Text(d.Num)
	case api.Bool:
		return map[bool]string{true: "#t", false: "#f"}[d.N == 1]
	case api.Char:
		return modelLetter(d.N, display)
	case api.String:
		return modelText(d.Text, display)
	case api.Symbol:
		return d.Text
	case api.List:
		if len(d.Rest) == 0 {
			return "(" + modelRow(d.Items, display) + ")"
		}
		rest := model(d.Rest[0], display)
		if len(d.Items) == 0 {
			return rest
		}
		return "(" + modelRow(d.Items, display) + " . " + rest + ")"
	case api.Vector:
		return "#(" + modelRow(d.Items, display) + ")"
	case api.Proc:
		return "#<procedure>"
	case api.Cond:
		s := "#<condition " + d.Text
		for _, x := range d.Items {
			s += " " + model(x, false)
		}
		return s + ">"
	}
	return "#<void>"
}

func modelRow(items []api.Datum, display bool) string {
	var all []string
	for _, x := range items {
		all = append(all, model(x, display))
	}
	return strings.Join(all, " ")
}

func modelLetter(n int, display bool) string {
	low := (n%256 + 256) % 256
	if display {
		return string([]byte{byte(low)})
	}
	if name, ok := map[int]string{32: "space", 10: "newline", 9: "tab", 0: "nul"}[n]; ok {
		return `#\` + name
	}
	if n >= 33 && n <= 126 {
		return fmt.Sprintf(`#\%c`, n)
	}
	return fmt.Sprintf(`#\x%02x`, low)
}

func modelText(s string, display bool) string {
	if display {
		return s
	}
	short := map[byte]string{'"': `\"`, '\\': `\\`, 10: `\n`, 9: `\t`}
	out := ""
	for _, b := range []byte(s) {
		if short[b] != "" {
			out += short[b]
		} else if b < 32 || b >= 127 {
			out += fmt.Sprintf(`\x%02x;`, b)
		} else {
			out += string(rune(b))
		}
	}
	return `"` + out + `"`
}

// P6.1, P6.2: data of every kind in one another, whatever their fields say.
func TestAnyData(t *testing.T) {
	for seed := range 20000 {
		d := dice(seed + 1)
		x := d.any(1 + seed%5)
		wants(t, x, model(x, false), model(x, true))
	}
}

// Each number of a character, each byte of a text, in all places in which they may stand.
func TestAnyByte(t *testing.T) {
	for n := -600; n < 600; n++ {
		c, s := letter(n), text(string([]byte{'a', byte(n), 'b'}))
		for _, x := range []api.Datum{c, s, list(c, s), vector(c, s), dotted(c, s), dotted(s, c), dotted(c), condition("x", c, s), list(condition("x", c, s), c, s)} {
			wants(t, x, model(x, false), model(x, true))
		}
	}
}

// Without characters, texts and what has such in it, both tell the same.
func TestOneWayForMost(t *testing.T) {
	for _, kind := range []int{api.Int, api.Bool, api.Symbol, api.List, api.Vector, api.Void, api.Proc, api.Cond, 0, 11} {
		x := api.Datum{Kind: kind, N: 1, Text: "a\"\n\x80"}
		if show.Write(x) != show.Display(x) {
			t.Errorf("%+v: %q, %q", x, show.Write(x), show.Display(x))
		}
	}
}
