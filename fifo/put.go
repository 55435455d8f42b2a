package fifo

import (
	"shunting/api"
	"shunting/arena"
	"shunting/epoch"
	"shunting/word"
)

// put puts a value. A segment that it holds at the end wasn't linked: nobody saw it, so it goes back with the life that it has, and as bare as it was.
func (c *call) put(val uint32) api.Code {
	epoch.Hold(c.Doer, c.thread)
	code, m := c.toNewest(val)
	if m != 0 {
		c.Write(api.Slot, c.place(m, 0), word.Bare(word.High(m)))
		arena.Give(c.Doer, m)
	}
	epoch.Drop(c.Doer, c.thread)
	return code
}

// toNewest puts a value into the newest segment, or links a new one that has it; m is a segment that it holds still, 0: none.
func (c *call) toNewest(val uint32) (code api.Code, m uint64) {
again:
	s := c.Read(api.Tail, 0)
	if c.fill(s, val) == had {
		return api.OK, m
	}
	if n := c.Read(api.Next, word.Handle(s)); n != 0 {
		c.Swap(api.Tail, 0, s, n)
		goto again
	}
	if m == 0 {
		if m = c.fresh(val); m == 0 {
			return api.NoMem, 0
		}
	}
	if _, done := c.Swap(api.Next, word.Handle(s), 0, m); !done {
		goto again
	}
	c.Swap(api.Tail, 0, s, m)
	return api.OK, 0
}

// fill puts a value into a slot of a segment that is bare.
func (c *call) fill(s uint64, val uint32) finding {
	life := word.High(s)
	for _, at := range c.places(s) {
		if c.Read(api.Slot, at) != word.Bare(life) {
			continue
		}
		if _, done := c.Swap(api.Slot, at, word.Bare(life), word.Slot(life, val)); done {
			return had
		}
	}
	return closed
}

// fresh takes a segment that has a value, and none behind it. 0: there is none.
func (c *call) fresh(val uint32) (m uint64) {
	m = arena.Take(c.Doer)
	if m != 0 {
		c.Write(api.Next, word.Handle(m), 0)
		c.Write(api.Slot, c.place(m, 0), word.Slot(word.High(m), val))
	}
	return m
}
