package base

// Immediates that stand for one value each.
const (
	falseWord     = 2
	trueWord      = 6
	emptyList     = 10
	voidWord      = 14
	undefinedWord = 18
)

// A primitive is an immediate with its number: the low byte says that it is one.
const (
	numberAt = 8
	markMask = 1<<numberAt - 1
	primMark = 26
)

// Kinds of objects. Continuations, and those from windKind on, are the machine's own.
const (
	pairKind         = 1
	closureKind      = 6
	boxKind          = 7
	continuationKind = 8
	windKind         = 10
	frameKind        = 11
)

// Fields of pairs and of conditions.
const (
	carField     = 0
	cdrField     = 1
	messageField = 1
)

// How many words objects have, headers too; ownWords are those beside the tagged fields of one that layOwn lays.
const (
	pairWords = 3
	boxWords  = 2
	ownWords  = 2
)

func primitiveWord(n int) uint64 { return uint64(n)<<numberAt | primMark }

// primitiveNumber is the number of a primitive's word, and true; false of another word.
func primitiveNumber(w uint64) (int, bool) {
	if w&markMask != primMark {
		return 0, false
	}
	return int(w >> numberAt), true
}

// field is a tagged field that is known to be there.
func (m *Machine) field(object uint64, i int) uint64 {
	w, _ := m.Get(object, i)
	return w
}

// raw is the one raw field of an object that is known to have it.
func (m *Machine) raw(object uint64) uint64 {
	w, _ := m.Raw(object, 0)
	return w
}

// layOwn lays an object of these tagged fields and one raw one, for which there is room.
func (m *Machine) layOwn(kind int, raw uint64, fields ...uint64) uint64 {
	p, _ := m.Alloc(kind, len(fields), 1)
	for i, w := range fields {
		m.Set(p, i, w)
	}
	m.SetRaw(p, 0, raw)
	return p
}
