// Package slots is what layers 6 to 8 have in common: their runs, and the slots of a segment, that their calls go through.
package slots

import (
	"slices"

	"shunting/access"
	"shunting/api"
	"shunting/drive"
	"shunting/epoch"
	"shunting/word"
)

// Call is a Put or a Get that is on, and does its accesses.
type Call struct {
	access.Doer
	Thread   int
	Segments int // how many there are
	Size     int // how many slots a segment has
	First    int // the number of the one, in each segment, that the call's slots begin with
}

// Run: a run of Put, Get and Collect, of a config of a kind; put and get are how a Put and a Get go. Arg.
func Run(kind int, c api.Config, l [][]api.Op, picks []api.Pick, put func(c *Call, val uint32) api.Code, get func(c *Call) (api.Code, uint32)) (api.Trace, api.Code) {
	if c.Kind != kind || slices.ContainsFunc(l, foreign) {
		return api.Trace{}, api.Arg
	}
	return drive.Run(c, l, picks, func(thread int, o api.Op, draw uint32) drive.Machine {
		return drive.Proc(func(do func(a api.Access) (was uint64, done bool)) (api.Code, uint32) {
			if o.Kind == api.Collect {
				epoch.Collect(do, c.T)
				return api.OK, 0
			}
			// The remainder is made of what has no sign: a draw from 2^31 on is none below 0, whatever int's size.
			b := &Call{Doer: do, Thread: thread, Segments: c.M, Size: c.K, First: int(draw % uint32(c.K))}
			if o.Kind == api.Put {
				return put(b, o.Val), 0
			}
			return get(b)
		})
	})
}

// foreign: is one of a thread's calls another layer's, or a Put of what is no value?
func foreign(calls []api.Op) bool {
	return slices.ContainsFunc(calls, func(o api.Op) bool {
		switch o.Kind {
		case api.Put:
			return o.Val > api.MaxVal
		case api.Get, api.Collect:
			return false
		}
		return true
	})
}

// Place is that of the call's slot of a number, of a segment.
func (c *Call) Place(segment, n int) int {
	return segment*c.Size + (c.First+n)%c.Size
}

// Fill puts a value into a slot of a segment of a life, if it is bare.
func (c *Call) Fill(at int, life, val uint32) (put bool) {
	if c.Read(api.Slot, at) == word.Bare(life) {
		_, put = c.Swap(api.Slot, at, word.Bare(life), word.Slot(life, val))
	}
	return put
}

// Fetch takes a value out of a slot of a segment of a life, if one is there: what was there last, and whether it was had.
func (c *Call) Fetch(at int, life uint32) (was uint64, got bool) {
	was = c.Read(api.Slot, at)
	if word.High(was) != life || word.Low(was) == 0 {
		return was, false
	}
	return c.Swap(api.Slot, at, was, word.Bare(life+1))
}
