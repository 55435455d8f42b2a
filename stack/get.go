package stack

import (
	"shunting/api"
	"shunting/epoch"
	"shunting/slots"
	"shunting/word"
)

// get gets a value.
func get(c *slots.Call) (api.Code, uint32) {
	epoch.Hold(c.Doer, c.Thread)
	code, val := fromTop(c)
	epoch.Drop(c.Doer, c.Thread)
	return code, val
}

// fromTop takes a value out of the topmost segment; when that one is spent, it is taken off, and the one below it is looked at.
func fromTop(c *slots.Call) (api.Code, uint32) {
again:
	s := c.Read(api.Head, 0)
	if word.Low(s) == 0 {
		return api.Empty, 0
	}
	if val, got := look(c, s); got {
		return api.OK, val
	}
	if val, got := spend(c, s); got {
		return api.OK, val
	}
	n := c.Read(api.Next, word.Handle(s))
	if _, done := c.Swap(api.Head, 0, s, n); done {
		epoch.Retire(c.Doer, s)
	}
	goto again
}

// look takes a value out of a segment.
func look(c *slots.Call, s uint64) (val uint32, got bool) {
	for n := range c.Size {
		if was, got := c.Fetch(c.Place(word.Handle(s), n), word.High(s)); got {
			return word.Low(was) - 1, true
		}
	}
	return 0, false
}

// spend takes a value out of a segment, if one has come since; bare slots on the way are spent, lest a value is put into the segment when it is taken off. Who loses a bare slot lost it to a value, or to who spent it: so the same slot is looked at again.
func spend(c *slots.Call, s uint64) (val uint32, got bool) {
	life := word.High(s)
next:
	for n := range c.Size {
		at := c.Place(word.Handle(s), n)
		for {
			was, got := c.Fetch(at, life)
			if got {
				return word.Low(was) - 1, true
			}
			if was != word.Bare(life) {
				continue next
			}
			if _, done := c.Swap(api.Slot, at, was, word.Bare(life+1)); done {
				continue next
			}
		}
	}
	return 0, false
}
