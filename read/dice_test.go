package read_test

import (
	"strings"

	"tandem/api"
	"tandem/num"
)

// dice is a row of numbers that is the same in each run.
type dice uint64

func (d *dice) below(n int) int {
	*d ^= *d << 13
	*d ^= *d >> 7
	*d ^= *d << 17
	return int(uint64(*d) >> 11 % uint64(n))
}

func (d *dice) of(all ...string) string { return all[d.below(len(all))] }

// blank is something that parts tokens, and means nothing.
func (d *dice) blank(deep int) string {
	if deep > 0 && d.below(4) == 0 {
		return d.of(" #;", "\n#; ") + d.written(d.datum(2), deep-1) + d.of(" ", "\n")
	}
	return d.of(" ", "\t", "\n", "\r\n", "   ", "; a ) ( \" #|\n", ";\n", " #||#", " #| ) #|\"|# ; |# ", " #;a ", " #;#;(b . c) \")\"\n")
}

// loose is as many blanks as one likes.
func (d *dice) loose(deep int) string {
	s := ""
	for range d.below(3) {
		s += d.blank(deep)
	}
	return s
}

// datum is one of those that are read, at most that deep.
func (d *dice) datum(deep int) api.Datum {
	kinds := 5
	if deep > 1 {
		kinds = 10
	}
	switch d.below(kinds) {
	case 0:
		n := api.Num{Neg: d.below(2) == 0}
		for range d.below(4) {
			n.Mag = append(n.Mag, uint32(d.below(1<<32)))
		}
		return api.Datum{Kind: api.Int, Num: num.Add(n)}
	case 1:
		return boolean(d.below(2))
	case 2:
		return letter(d.below(256))
	case 3:
		b := make([]byte, d.below(6))
		for i := range b {
			b[i] = byte(d.below(256))
		}
		return text(string(b))
	case 4:
		return symbol(d.of("a", "b", "quote", "unquote", "...", "+", "-", "->x", "a.b", "!$%&*/:<=>?@^_~", "Z9", "-1.5"))
	case 5:
		return vector(d.data(deep-1, 0)...)
	case 6:
		if rest := d.datum(deep - 1); rest.Kind != api.List {
			return dotted(rest, d.data(deep-1, 1)...)
		}
	case 7:
		return list(symbol(d.of("quote", "quasiquote", "unquote", "unquote-splicing")), d.datum(deep-1))
	}
	return list(d.data(deep-1, 0)...)
}

func (d *dice) data(deep, least int) []api.Datum {
	var all []api.Datum
	for range least + d.below(4) {
		all = append(all, d.datum(deep))
	}
	return all
}

// written is a datum in one of the ways in which it may be written, with blanks where they may stand.
func (d *dice) written(x api.Datum, deep int) string {
	switch x.Kind {
	case api.Int:
		s := num.Text(x.Num)
		if !x.Num.Neg {
			s = d.of("", "+") + d.of("", "0", "00") + s
		}
		return s
	case api.Bool:
		return d.of([][]string{{"#f", "#false"}, {"#t", "#true"}}[x.N]...)
	case api.Char:
		return d.writtenLetter(x.N)
	case api.String:
		return d.writtenText(x.Text)
	case api.Symbol:
		return x.Text
	case api.Vector:
		return "#(" + d.row(x.Items, deep) + ")"
	}
	return d.writtenList(x, deep)
}

func (d *dice) writtenLetter(n int) string {
	short := `#\x` + strings.TrimPrefix(hexOf(n), "0")
	all := []string{`#\x` + hexOf(n), short, `#\` + string([]byte{byte(n)})}
	for b, name := range map[int]string{32: "space", 10: "newline", 9: "tab", 0: "nul"} {
		if n == b {
			all = append(all, `#\`+name)
		}
	}
	return d.of(all...)
}

func (d *dice) writtenText(s string) string {
	out := `"`
	for i := range len(s) {
		c := s[i : i+1]
		all := []string{`\x` + hexOf(int(s[i])) + ";", c}
		switch c {
		case `"`, `\`:
			all[1] = `\` + c
		case "\n":
			all = append(all, `\n`)
		case "\t":
			all = append(all, `\t`)
		}
		out += d.of(all...)
	}
	return out + `"`
}

func (d *dice) writtenList(x api.Datum, deep int) string {
	if len(x.Items) == 2 && len(x.Rest) == 0 && x.Items[0].Kind == api.Symbol && d.below(2) == 0 {
		for _, p := range [][2]string{{"quote", "'"}, {"quasiquote", "`"}, {"unquote", ","}, {"unquote-splicing", ",@"}} {
			if x.Items[0].Text == p[0] {
				// A symbol that begins with @ would turn , into ,@.
				return p[1] + " " + d.loose(deep) + d.written(x.Items[1], deep)
			}
		}
	}
	at := 1 + d.below(len(x.Items)+1)
	switch {
	case at <= len(x.Items) && d.below(2) == 0:
		tail := api.Datum{Kind: api.List, Items: x.Items[at:], Rest: x.Rest}
		if len(tail.Items) == 0 && len(tail.Rest) > 0 {
			tail = tail.Rest[0]
		}
		return "(" + d.row(x.Items[:at], deep) + " . " + d.loose(deep) + d.written(tail, deep) + d.loose(deep) + ")"
	case len(x.Rest) > 0:
		return "(" + d.row(x.Items, deep) + d.blank(deep) + "." + d.blank(deep) + d.written(x.Rest[0], deep) + d.loose(deep) + ")"
	}
	return "(" + d.row(x.Items, deep) + ")"
}

func (d *dice) row(items []api.Datum, deep int) string {
	s := d.loose(deep)
	for _, x := range items {
		s += d.written(x, deep) + d.blank(deep) + d.loose(deep)
	}
	return s
}
