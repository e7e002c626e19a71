package match

import "tandem/api"

// cursor is a bind that goes deep: it embeds what it is at, the bind itself or, under ellipses, one of its Subs.
type cursor struct {
	*api.Bind
	around []*api.Bind // what it was at under fewer ellipses
}

func cursorsOf(binds []api.Bind) []cursor {
	all := make([]cursor, len(binds))
	for i := range binds {
		all[i].Bind = &binds[i]
	}
	return all
}

// enter goes into a Sub.
func (c *cursor) enter(i int) {
	c.around = append(c.around, c.Bind)
	c.Bind = &c.Subs[i]
}

// leave goes back to what the Sub is of.
func (c *cursor) leave() {
	last := len(c.around) - 1
	c.Bind, c.around = c.around[last], c.around[:last]
}

// spread makes that many Subs. They have the bind's name though there be nothing yet that they stand for.
func (c *cursor) spread(n int) {
	c.Subs = make([]api.Bind, n)
	for i := range c.Subs {
		c.Subs[i] = api.Bind{Name: c.Name, Mark: c.Mark, Depth: c.Depth - 1}
	}
}
