package ring

import (
	"shunting/api"
	"shunting/slots"
)

// put puts a value into the segment that Tail leads to; when no slot is bare there, Tail goes on to the next one.
func put(c *slots.Call, val uint32) api.Code {
	for {
		n := c.Read(api.Tail, 0)
		if fill(c, n, val) {
			return api.OK
		}
		// Added, not subtracted: Head may have gone past n since Tail was read.
		if h := c.Read(api.Head, 0); n >= h+uint64(c.Segments)-1 {
			return api.Full
		}
		c.Swap(api.Tail, 0, n, n+1)
	}
}

// fill puts a value into a slot of n's segment that is bare.
func fill(c *slots.Call, n uint64, val uint32) (had bool) {
	through(c, n, func(_, at int) (more bool) {
		had = c.Fill(at, lap(c, n), val)
		return !had
	})
	return had
}
