package prim

import (
	"tandem/api"
	"tandem/value"
)

// Classes of conditions that primitives come to.
const (
	arityClass  = "arity"
	typeClass   = "type"
	rangeClass  = "range"
	divideClass = "divide"
)

// call is one call of a primitive: the store of its values, what it is, what it is handed.
type call struct {
	*value.Store
	prim api.Prim
	args []uint64
}

// answer is what a call comes to.
type answer struct {
	word uint64
	out  []byte
	how  int
}

// does is what a primitive does with a call's arguments, of which there are as many as it takes.
type does = func() answer

// come is what the call of primitive n comes to.
func (c *call) come(n int) answer {
	if count := len(c.args); count < c.prim.Least || c.prim.Most >= 0 && count > c.prim.Most {
		return c.wrong(arityClass)
	}
	return c.find(n)()
}

// The list of primitives is parted into groups: these are the numbers behind the last one of each.
const (
	sumsEnd     = 8  // + to >=
	numbersEnd  = 24 // quotient to string->number
	testsEnd    = 37 // eq? to procedure?
	pairsEnd    = 42 // cons to set-cdr!
	listsEnd    = 54 // list to assoc
	vectorsEnd  = 62 // vector to vector-fill!
	textsEnd    = 76 // string-length to char<?
	othersEnd   = 85 // write to void
	controlsEnd = 92 // apply to error
)

// find finds what primitive n does in the map of its group. The map is over this one call, so that one of all primitives would be much to make for each of them.
func (c *call) find(n int) does {
	group := c.others
	switch {
	case n < sumsEnd:
		group = c.sums
	case n < numbersEnd:
		group = c.numbers
	case n < testsEnd:
		group = c.tests
	case n < pairsEnd:
		group = c.pairs
	case n < listsEnd:
		group = c.lists
	case n < vectorsEnd:
		group = c.vectors
	case n < textsEnd:
		group = c.texts
	}
	return group()[c.prim.Name]
}

// others are what goes out, conditions, and void.
func (c *call) others() map[string]does {
	return map[string]does{
		"write":               c.write,
		"display":             c.display,
		"newline":             c.newline,
		"write-char":          c.writeChar,
		"condition?":          c.testCondition,
		"condition-class":     c.class,
		"condition-message":   c.message,
		"condition-irritants": c.irritants,
		"void":                c.void,
	}
}

// are tells whether the first arguments are of these kinds, one by one.
func (c *call) are(kinds ...func(w uint64) bool) bool {
	for i, is := range kinds {
		if !is(c.args[i]) {
			return false
		}
	}
	return true
}

// index is the number of an argument that is known to be a number, and true, if it is from 0 to most.
func (c *call) index(arg, most int) (int, bool) {
	n, ok := value.Int(c.args[arg])
	if !ok || n < 0 || n > int64(most) {
		return 0, false
	}
	return int(n), true
}

// part is a field of the first argument, which is to be an object of that kind.
func (c *call) part(is func(w uint64) bool, field int) answer {
	if !c.are(is) {
		return c.wrong(typeClass)
	}
	return done(c.field(c.args[0], field))
}

func done(w uint64) answer { return answer{word: w, how: api.Done} }

func told(yes bool) answer { return done(truth(yes)) }

// laid is the answer of a maker, which is refused for want of room alone: all words of a call are values.
func laid(w uint64, ok bool) answer {
	if !ok {
		return noRoom()
	}
	return done(w)
}

func noRoom() answer { return answer{how: api.Room} }

func beyondLimit() answer { return answer{how: api.Limit} }

// wrong is a condition of that class, with the primitive's name and all its arguments.
func (c *call) wrong(class string) answer {
	w, ok := Condition(c.Store, class, c.prim.Name, c.args...)
	if !ok {
		return noRoom()
	}
	return answer{word: w, how: api.Wrong}
}
