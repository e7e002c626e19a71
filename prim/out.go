package prim

import (
	"tandem/api"
	"tandem/show"
)

func (c *call) write() answer { return c.show(show.Write) }

func (c *call) display() answer { return c.show(show.Display) }

// show lets a value go out as a text that tells of its datum.
func (c *call) show(tell func(d api.Datum) string) answer {
	d, ok := c.Take(c.args[0], api.MaxSteps)
	if !ok {
		return beyondLimit()
	}
	return goesOut([]byte(tell(d))...)
}

func (c *call) newline() answer { return goesOut('\n') }

func (c *call) writeChar() answer {
	if !c.are(isChar) {
		return c.wrong(typeClass)
	}
	return goesOut(charByte(c.args[0]))
}

func (c *call) void() answer { return done(voidWord) }

func goesOut(b ...byte) answer { return answer{word: voidWord, out: b, how: api.Done} }
