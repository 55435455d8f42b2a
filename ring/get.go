package ring

import (
	"slices"

	"shunting/api"
	"shunting/slots"
	"shunting/word"
)

// memory is what was there last in each of a call's slots.
type memory [api.MaxK]uint64

// get takes a value out of the segment that Head leads to; when it is spent, Head goes on to the next one, and when it changed meanwhile, it is looked at anew.
func get(c *slots.Call) (api.Code, uint32) {
	for {
		h := c.Read(api.Head, 0)
		seen, val, got := look(c, h)
		if got {
			return api.OK, val
		}
		if !slices.Contains(seen[:c.Size], word.Bare(lap(c, h))) {
			if c.Read(api.Tail, 0) == h {
				return api.Empty, 0
			}
			c.Swap(api.Head, 0, h, h+1)
			continue
		}
		val, got, same := compare(c, h, seen)
		if got {
			return api.OK, val
		}
		if same {
			return api.Empty, 0
		}
	}
}

// look takes a value out of h's segment; else it tells what was seen there.
func look(c *slots.Call, h uint64) (seen memory, val uint32, got bool) {
	val, got = fetch(c, h, func(nth int, was uint64) (more bool) {
		seen[nth] = was
		return true
	})
	return seen, val, got
}

// compare takes a value out of h's segment, if one has come since it was seen; else it tells whether each slot is as it was: then all were so at one time. (One that another call got ahead of this one isn't: no slot is ever what it once was.)
func compare(c *slots.Call, h uint64, seen memory) (val uint32, got, same bool) {
	val, got = fetch(c, h, func(nth int, was uint64) (more bool) {
		same = was == seen[nth]
		return same
	})
	return val, got, same && !got
}

// fetch takes a value out of h's segment, going through its slots as long as miss, which hears what was there last in one out of which none was had, wants more.
func fetch(c *slots.Call, h uint64, miss func(nth int, was uint64) (more bool)) (val uint32, got bool) {
	through(c, h, func(nth, at int) (more bool) {
		var was uint64
		if was, got = c.Fetch(at, lap(c, h)); got {
			val = word.Low(was) - 1
			return false
		}
		return miss(nth, was)
	})
	return val, got
}
