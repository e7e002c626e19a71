package prim_test

import (
	"strings"

	"tandem/api"
	"tandem/show"
)

func text(b string) wish { return wish{d: &api.Datum{Kind: api.String, Text: b}} }

func (m model) texts() wish {
	var all []string
	for _, w := range m.args {
		b, _ := m.s.Bytes(w)
		all = append(all, string(b))
	}
	first := strings.Join(all[:min(len(all), 1)], "")
	switch m.name {
	case "string-length":
		return word(fix(len(first)))
	case "string-append":
		return text(strings.Join(all, ""))
	case "string=?":
		return yes(first == all[1])
	case "string<?":
		return yes(first < all[1])
	case "string-ref":
		if i := m.index(1, len(first)-1); i >= 0 {
			return word(char(int(first[i])))
		}
		return wrong("range")
	case "substring":
		from, to := m.index(1, len(first)), m.index(2, len(first))
		if from < 0 || to < from {
			return wrong("range")
		}
		return text(first[from:to])
	case "string->list":
		d := api.Datum{Kind: api.List}
		for i := range len(first) {
			d.Items = append(d.Items, api.Datum{Kind: api.Char, N: int(first[i])})
		}
		return wish{d: &d}
	case "list->string":
		return m.listToText()
	case "string->symbol":
		return wish{d: &api.Datum{Kind: api.Symbol, Text: first}}
	case "symbol->string":
		name, _ := m.s.Name(m.args[0])
		return text(name)
	case "char->integer":
		return word(fix(int(m.args[0] / 256)))
	case "char=?":
		return yes(m.args[0] == m.args[1])
	case "char<?":
		return yes(m.args[0] < m.args[1])
	}
	return wish{word: Void, out: string([]byte{byte(m.args[0] / 256)})}
}

func (m model) listToText() wish {
	pairs, _ := m.chain(m.args[0])
	b := ""
	for _, p := range pairs {
		w, _ := m.s.Get(p, 0)
		if !m.is('c', w) {
			return wrong("type")
		}
		b += string([]byte{byte(w / 256)})
	}
	return text(b)
}

// data are the items of words, as they are taken; no wish, if one of them is too much.
func (m model) data(kind int, words ...uint64) wish {
	d := api.Datum{Kind: kind}
	for _, w := range words {
		item, ok := m.s.Take(w, api.MaxSteps)
		if !ok {
			return wish{d: &api.Datum{}}
		}
		d.Items = append(d.Items, item)
	}
	return wish{d: &d}
}

// fields are an object's tagged fields.
func (m model) fields(w uint64) []uint64 {
	var all []uint64
	for i := range m.s.Tagged(w) {
		item, _ := m.s.Get(w, i)
		all = append(all, item)
	}
	return all
}

// items are the items of a list.
func (m model) items(w uint64) []uint64 {
	pairs, _ := m.chain(w)
	var all []uint64
	for _, p := range pairs {
		item, _ := m.s.Get(p, 0)
		all = append(all, item)
	}
	return all
}

func (m model) vectors() wish {
	switch m.name {
	case "vector":
		return m.data(api.Vector, m.args...)
	case "list->vector":
		return m.data(api.Vector, m.items(m.args[0])...)
	case "vector->list":
		return m.data(api.List, m.fields(m.args[0])...)
	case "vector-length":
		return word(fix(m.s.Tagged(m.args[0])))
	case "vector-fill!":
		return word(Void)
	case "make-vector":
		n := m.index(0, api.MaxWords)
		switch {
		case n < 0:
			return wrong("range")
		case n > 1500:
			return wish{how: api.Room}
		}
		all := make([]uint64, n)
		for i := range all {
			all[i] = append(m.args, fix(0))[1]
		}
		return m.data(api.Vector, all...)
	}
	i := m.index(1, m.s.Tagged(m.args[0])-1)
	switch {
	case i < 0:
		return wrong("range")
	case m.name == "vector-ref":
		return word(m.fields(m.args[0])[i])
	}
	return word(Void)
}

func (m model) others() wish {
	switch m.name {
	case "cons":
		car, ok := m.s.Take(m.args[0], api.MaxSteps)
		cdr, fits := m.s.Take(m.args[1], api.MaxSteps)
		if !ok || !fits {
			return wish{d: &api.Datum{}}
		}
		return wish{d: &api.Datum{Kind: api.List, Items: []api.Datum{car}, Rest: []api.Datum{cdr}}}
	case "car", "cdr", "condition-class", "condition-message", "condition-irritants":
		field := map[string]int{"cdr": 1, "condition-message": 1, "condition-irritants": 2}[m.name]
		return word(m.fields(m.args[0])[field])
	case "list":
		return m.data(api.List, m.args...)
	case "length":
		return word(fix(len(m.items(m.args[0]))))
	case "reverse":
		items := m.items(m.args[0])
		var back []uint64
		for i := range items {
			back = append(back, items[len(items)-1-i])
		}
		return m.data(api.List, back...)
	case "append":
		return m.appended()
	case "list-ref", "list-tail":
		return m.tail()
	case "newline":
		return wish{word: Void, out: "\n"}
	case "write", "display":
		d, ok := m.s.Take(m.args[0], api.MaxSteps)
		switch {
		case !ok:
			return wish{how: api.Limit}
		case m.name == "write":
			return wish{word: Void, out: show.Write(d)}
		}
		return wish{word: Void, out: show.Display(d)}
	case "set-car!", "set-cdr!", "void":
		return word(Void)
	}
	return m.found()
}

func (m model) appended() wish {
	if len(m.args) == 0 {
		return word(Empty)
	}
	last := m.args[len(m.args)-1]
	var items []uint64
	for _, w := range m.args[:len(m.args)-1] {
		items = append(items, m.items(w)...)
	}
	if len(items) == 0 {
		return word(last)
	}
	made := m.data(api.List, items...)
	rest, ok := m.s.Take(last, api.MaxSteps)
	if !ok || made.d.Kind == 0 {
		return wish{d: &api.Datum{}}
	}
	made.d.Rest = []api.Datum{rest}
	return made
}

func (m model) tail() wish {
	n := m.big(1)
	pairs, end := m.chain(m.args[0])
	round := m.is('p', end)
	if n.Sign() < 0 || !n.IsInt64() || n.Int64() >= 1<<61 {
		return wrong("range")
	}
	at := n.Int64()
	if round {
		// 2520 is a whole number of rounds of up to 10 pairs.
		for at >= 2900 {
			at = 200 + (at-200)%2520
		}
	}
	switch {
	case at > int64(len(pairs)) || at == int64(len(pairs)) && m.name == "list-ref":
		return wrong("range")
	case m.name == "list-ref":
		return word(m.fields(pairs[at])[0])
	case at == int64(len(pairs)):
		return word(end)
	}
	return word(pairs[at])
}

func (m model) found() wish {
	pairs, end := m.chain(m.args[1])
	for _, p := range pairs {
		item, _ := m.s.Get(p, 0)
		found := p
		if m.name[0] == 'a' {
			if !m.is('p', item) {
				return wrong("type")
			}
			found = item
			item, _ = m.s.Get(item, 0)
		}
		same, ends := item == m.args[0], true
		switch m.name {
		case "memv", "assv":
			same = m.s.Eqv(item, m.args[0])
		case "member", "assoc":
			same, ends = m.s.Equal(item, m.args[0])
		}
		switch {
		case !ends:
			return wish{how: api.Limit}
		case same:
			return word(found)
		}
	}
	if end != Empty {
		return wrong("type")
	}
	return word(False)
}
