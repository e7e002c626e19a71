package rcode

import (
	"slices"

	"tandem/api"
)

// Copied is code in new memory.
func Copied(c api.Code) api.Code {
	c.Ins, c.Raws, c.Names = slices.Clone(c.Ins), slices.Clone(c.Raws), slices.Clone(c.Names)
	c.Consts = copiedData(c.Consts)
	c.Exits = slices.Clone(c.Exits)
	for i := range c.Exits {
		frames := slices.Clone(c.Exits[i].Frames)
		for k := range frames {
			frames[k].Slots = slices.Clone(frames[k].Slots)
		}
		c.Exits[i].Frames = frames
	}
	c.Maps = slices.Clone(c.Maps)
	for i := range c.Maps {
		c.Maps[i] = slices.Clone(c.Maps[i])
	}
	return c
}

// copiedData are data in new memory. Code that is not Sound may have data that are deeper than calls go, so lists whose data have still the old parts are kept in a list.
func copiedData(data []api.Datum) []api.Datum {
	data = slices.Clone(data)
	todo := [][]api.Datum{data}
	for len(todo) > 0 {
		last := len(todo) - 1
		some := todo[last]
		todo = todo[:last]
		for i := range some {
			d := &some[i]
			d.Num.Mag, d.Items, d.Rest = slices.Clone(d.Num.Mag), slices.Clone(d.Items), slices.Clone(d.Rest)
			todo = appendFull(todo, d.Items, d.Rest)
		}
	}
	return data
}

// appendFull appends those lists in which there is something.
func appendFull(all [][]api.Datum, lists ...[]api.Datum) [][]api.Datum {
	for _, l := range lists {
		if len(l) > 0 {
			all = append(all, l)
		}
	}
	return all
}
