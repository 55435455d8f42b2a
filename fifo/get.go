package fifo

import (
	"shunting/api"
	"shunting/epoch"
	"shunting/word"
)

// get gets a value.
func (c *call) get() (api.Code, uint32) {
	epoch.Hold(c.Doer, c.thread)
	code, val := c.fromOldest()
	epoch.Drop(c.Doer, c.thread)
	return code, val
}

// fromOldest takes a value out of the oldest segment, going on to the next one when it is spent, and looking anew when it changed meanwhile.
func (c *call) fromOldest() (api.Code, uint32) {
	seen := make([]uint64, c.slots)
again:
	s := c.Read(api.Head, 0)
	found, val := c.look(s, seen)
	if found == open {
		found, val = c.compare(s, seen)
	}
	switch found {
	case had:
		return api.OK, val
	case same:
		return api.Empty, 0
	case closed:
		n := c.Read(api.Next, word.Handle(s))
		if n == 0 {
			return api.Empty, 0
		}
		c.leave(s, n)
	}
	goto again
}

// look takes a value out of a segment; else seen is what was there last, slot by slot.
func (c *call) look(s uint64, seen []uint64) (found finding, val uint32) {
	found = closed
	for n, at := range c.places(s) {
		was, got := c.fetch(at, word.High(s))
		if got {
			return had, word.Low(was) - 1
		}
		if was == word.Bare(word.High(s)) {
			found = open
		}
		seen[n] = was
	}
	return found, 0
}

// compare takes a value out of a segment, if one has come since it was seen; else it tells whether each slot is as it was: then all were so at one time. (One that another call got ahead of this one isn't: no slot is ever what it once was.)
func (c *call) compare(s uint64, seen []uint64) (found finding, val uint32) {
	for n, at := range c.places(s) {
		was, got := c.fetch(at, word.High(s))
		if got {
			return had, word.Low(was) - 1
		}
		if was != seen[n] {
			return changed, 0
		}
	}
	return same, 0
}

// fetch takes a value out of a slot of a segment of a life, if one is there: what was there last, and whether it was had.
func (c *call) fetch(at int, life uint32) (was uint64, got bool) {
	was = c.Read(api.Slot, at)
	if word.High(was) != life || word.Low(was) == 0 {
		return was, false
	}
	return c.Swap(api.Slot, at, was, word.Bare(life+1))
}

// leave goes on from a segment that is spent to the next one. Tail goes ahead of Head, lest it leads to a segment that is retired.
func (c *call) leave(s, n uint64) {
	if c.Read(api.Tail, 0) == s {
		c.Swap(api.Tail, 0, s, n)
	}
	if _, done := c.Swap(api.Head, 0, s, n); done {
		epoch.Retire(c.Doer, s)
	}
}
