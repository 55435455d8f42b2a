package fifo

import (
	"iter"

	"shunting/access"
	"shunting/word"
)

// call is a Put or a Get that is on, and does its accesses.
type call struct {
	access.Doer
	thread int
	slots  int // how many a segment has
	first  int // the number of the one, in each segment, that the call's slots begin with
}

// finding is what was found of a segment, when the call's slots were gone through.
type finding int

// What may be found.
const (
	had     finding = iota // a slot was had: the call comes out OK
	closed                 // none was had, and none is bare, nor will one be
	open                   // none was had, and one is bare
	changed                // none was had, and one isn't as it was
	same                   // none was had, and each is as it was
)

// places are those of the call's slots of a segment, each with its number among them.
func (c *call) places(s uint64) iter.Seq2[int, int] {
	return func(yield func(n, at int) bool) {
		for n := range c.slots {
			if !yield(n, c.place(s, n)) {
				return
			}
		}
	}
}

// place is that of the call's slot of a number of a segment.
func (c *call) place(s uint64, n int) int {
	return word.Handle(s)*c.slots + (c.first+n)%c.slots
}
