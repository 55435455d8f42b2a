package stack

import (
	"shunting/api"
	"shunting/arena"
	"shunting/epoch"
	"shunting/slots"
	"shunting/word"
)

// put puts a value. A segment that it holds at the end never was Head's: nobody saw it, so it goes back with the life that it has, and as bare as it was.
func put(c *slots.Call, val uint32) api.Code {
	epoch.Hold(c.Doer, c.Thread)
	code, m := onTop(c, val)
	if m != 0 {
		c.Write(api.Slot, c.Place(word.Handle(m), 0), word.Bare(word.High(m)))
		arena.Give(c.Doer, m)
	}
	epoch.Drop(c.Doer, c.Thread)
	return code
}

// onTop puts a value into the topmost segment, or lays a new one that has it on top; m is a segment that it holds still, 0: none.
func onTop(c *slots.Call, val uint32) (code api.Code, m uint64) {
again:
	s := c.Read(api.Head, 0)
	if word.Low(s) != 0 && fill(c, s, val) {
		return api.OK, m
	}
	if m == 0 {
		if m = fresh(c, val); m == 0 {
			return api.NoMem, 0
		}
	}
	c.Write(api.Next, word.Handle(m), s)
	if _, done := c.Swap(api.Head, 0, s, m); !done {
		goto again
	}
	return api.OK, 0
}

// fill puts a value into a slot of a segment that is bare.
func fill(c *slots.Call, s uint64, val uint32) (had bool) {
	for n := range c.Size {
		if c.Fill(c.Place(word.Handle(s), n), word.High(s), val) {
			return true
		}
	}
	return false
}

// fresh takes a segment that has a value. 0: there is none.
func fresh(c *slots.Call, val uint32) (m uint64) {
	m = arena.Take(c.Doer)
	if m != 0 {
		c.Write(api.Slot, c.Place(word.Handle(m), 0), word.Slot(word.High(m), val))
	}
	return m
}
