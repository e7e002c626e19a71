package heap

// What a tagged word is, its two lowest bits say.
const (
	tagBits    = 2
	tagMask    = 1<<tagBits - 1
	pointerTag = 0
	headerTag  = 3
)

// falseWord is the immediate that stands in a tagged field at first.
const falseWord = 2

// Where a header's parts stand, and how wide they are.
const (
	kindAt    = 2
	kindMask  = 1<<6 - 1
	taggedAt  = 8
	rawsAt    = 32
	countMask = 1<<24 - 1
)

// header is the word ahead of an object's fields; 0 is that of no object, with nothing of all.
type header uint64

func headerOf(kind, tagged, raws int) header {
	return headerTag | header(kind)<<kindAt | header(tagged)<<taggedAt | header(raws)<<rawsAt
}

func (w header) kind() int { return int(w >> kindAt & kindMask) }

func (w header) tagged() int { return int(w >> taggedAt & countMask) }

func (w header) raws() int { return int(w >> rawsAt & countMask) }

// words is how many words the object has, its header too.
func (w header) words() int { return 1 + w.tagged() + w.raws() }

func pointerTo(place int) uint64 { return uint64(place) << tagBits }
