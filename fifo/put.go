package fifo

import (
	"shunting/api"
	"shunting/arena"
	"shunting/epoch"
	"shunting/slots"
	"shunting/word"
)

// put puts a value. A segment that it holds at the end wasn't linked: nobody saw it, so it goes back with the life that it has, and as bare as it was.
func put(c *slots.Call, val uint32) api.Code {
	epoch.Hold(c.Doer, c.Thread)
	code, m := toNewest(c, val)
	if m != 0 {
		c.Write(api.Slot, c.Place(word.Handle(m), 0), word.Bare(word.High(m)))
		arena.Give(c.Doer, m)
	}
	epoch.Drop(c.Doer, c.Thread)
	return code
}

// toNewest puts a value into the newest segment, or links a new one that has it; m is a segment that it holds still, 0: none.
func toNewest(c *slots.Call, val uint32) (code api.Code, m uint64) {
again:
	s := c.Read(api.Tail, 0)
	if fill(c, s, val) == had {
		return api.OK, m
	}
	if n := c.Read(api.Next, word.Handle(s)); n != 0 {
		c.Swap(api.Tail, 0, s, n)
		goto again
	}
	if m == 0 {
		if m = fresh(c, val); m == 0 {
			return api.NoMem, 0
		}
	}
	if _, done := c.Swap(api.Next, word.Handle(s), 0, m); !done {
		goto again
	}
	c.Swap(api.Tail, 0, s, m)
	return api.OK, 0
}

// fill puts a value into a slot of a segment that is bare.
func fill(c *slots.Call, s uint64, val uint32) finding {
	for _, at := range places(c, s) {
		if c.Fill(at, word.High(s), val) {
			return had
		}
	}
	return closed
}

// fresh takes a segment that has a value, and none behind it. 0: there is none.
func fresh(c *slots.Call, val uint32) (m uint64) {
	m = arena.Take(c.Doer)
	if m != 0 {
		c.Write(api.Next, word.Handle(m), 0)
		c.Write(api.Slot, c.Place(word.Handle(m), 0), word.Slot(word.High(m), val))
	}
	return m
}
