package fifo

import (
	"shunting/api"
	"shunting/epoch"
	"shunting/slots"
	"shunting/word"
)

// get gets a value.
func get(c *slots.Call) (api.Code, uint32) {
	epoch.Hold(c.Doer, c.Thread)
	code, val := fromOldest(c)
	epoch.Drop(c.Doer, c.Thread)
	return code, val
}

// fromOldest takes a value out of the oldest segment, going on to the next one when it is spent, and looking anew when it changed meanwhile.
func fromOldest(c *slots.Call) (api.Code, uint32) {
	seen := make([]uint64, c.Size)
again:
	s := c.Read(api.Head, 0)
	found, val := look(c, s, seen)
	if found == open {
		found, val = compare(c, s, seen)
	}
	switch found {
	case had:
		return api.OK, val
	case same:
		return api.Empty, 0
	case closed:
		n := c.Read(api.Next, word.Handle(s))
		if n == 0 {
			return api.Empty, 0
		}
		leave(c, s, n)
	}
	goto again
}

// look takes a value out of a segment; else seen is what was there last, slot by slot.
func look(c *slots.Call, s uint64, seen []uint64) (found finding, val uint32) {
	found = closed
	for n, at := range places(c, s) {
		was, got := c.Fetch(at, word.High(s))
		if got {
			return had, word.Low(was) - 1
		}
		if was == word.Bare(word.High(s)) {
			found = open
		}
		seen[n] = was
	}
	return found, 0
}

// compare takes a value out of a segment, if one has come since it was seen; else it tells whether each slot is as it was: then all were so at one time. (One that another call got ahead of this one isn't: no slot is ever what it once was.)
func compare(c *slots.Call, s uint64, seen []uint64) (found finding, val uint32) {
	for n, at := range places(c, s) {
		was, got := c.Fetch(at, word.High(s))
		if got {
			return had, word.Low(was) - 1
		}
		if was != seen[n] {
			return changed, 0
		}
	}
	return same, 0
}

// leave goes on from a segment that is spent to the next one. Tail goes ahead of Head, lest it leads to a segment that is retired.
func leave(c *slots.Call, s, n uint64) {
	if c.Read(api.Tail, 0) == s {
		c.Swap(api.Tail, 0, s, n)
	}
	if _, done := c.Swap(api.Head, 0, s, n); done {
		epoch.Retire(c.Doer, s)
	}
}
