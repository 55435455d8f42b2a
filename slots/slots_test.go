package slots

import (
	"slices"
	"testing"

	"shunting/api"
	"shunting/store"
	"shunting/trial"
)

// The call's slots of a segment are all of its slots, once each, from the first one on, going round.
func TestPlace(t *testing.T) {
	for size := 1; size <= api.MaxK; size++ {
		for first := range size {
			c := Call{Size: size, First: first}
			for _, segment := range []int{0, 1, api.MaxM - 1} {
				at := segment*size + first
				for n := range size {
					if got := c.Place(segment, n); got != at {
						t.Fatalf("%d slots from %d on, of the segment %d: %d is at %d, not %d", size, first, segment, n, got, at)
					}
					if at++; at == segment*size+size {
						at = segment * size
					}
				}
			}
		}
	}
}

// onto is a call that does accesses to words of one segment, of which a slot has this word, and its steps; ahead of a Swap another one puts there what it is handed, if that isn't 0.
func onto(w, ahead uint64) (*Call, *[]api.Step) {
	m, _ := store.New(api.Config{Kind: api.Stack, K: 2, T: 1, M: 2})
	m.Slots[1] = w
	do, l := trial.Onto(&m)
	return &Call{Size: 2, Doer: func(a api.Access) (uint64, bool) {
		if a.Do == api.Swap && ahead != 0 {
			m.Slots[1] = ahead
		}
		return do(a)
	}}, l
}

// Just what is bare in a life is filled.
func TestFill(t *testing.T) {
	for _, r := range trial.Highs() {
		life := uint32(r[1] >> 32)
		for _, w := range []uint64{r[0], r[2], r[1] | 1, r[1] | trial.Top, r[0] | 7} {
			c, l := onto(w, 0)
			if c.Fill(1, life, 5) || !slices.Equal(*l, trial.Does(trial.Reads(0, api.Slot, 1, w))) {
				t.Errorf("%#x in the life %d: %+v", w, life, *l)
			}
		}
		c, l := onto(r[1], 0)
		if !c.Fill(1, life, 5) || !slices.Equal(*l, trial.Does(trial.Reads(0, api.Slot, 1, r[1]), trial.Swaps(0, api.Slot, 1, r[1], r[1]|6))) {
			t.Errorf("bare in the life %d: %+v", life, *l)
		}
		c, l = onto(r[1], r[1]|9)
		if c.Fill(1, life, 5) || !slices.Equal(*l, trial.Does(trial.Reads(0, api.Slot, 1, r[1]), trial.Loses(0, api.Slot, 1, r[1], r[1]|6, r[1]|9))) {
			t.Errorf("lost in the life %d: %+v", life, *l)
		}
	}
}

// Just what has a value in a life is fetched; what is told is what was there last.
func TestFetch(t *testing.T) {
	for _, r := range trial.Highs() {
		life := uint32(r[1] >> 32)
		for _, w := range []uint64{r[0], r[1], r[2], r[0] | 7, r[2] | 7} {
			c, l := onto(w, 0)
			if was, got := c.Fetch(1, life); was != w || got || !slices.Equal(*l, trial.Does(trial.Reads(0, api.Slot, 1, w))) {
				t.Errorf("%#x in the life %d: %#x, %+v", w, life, was, *l)
			}
		}
		for _, low := range []uint64{1, 6, trial.Top} {
			w := r[1] | low
			c, l := onto(w, 0)
			if was, got := c.Fetch(1, life); was != w || !got || !slices.Equal(*l, trial.Does(trial.Reads(0, api.Slot, 1, w), trial.Swaps(0, api.Slot, 1, w, r[2]))) {
				t.Errorf("%#x in the life %d: %#x, %+v", w, life, was, *l)
			}
			c, l = onto(w, r[2]|3)
			if was, got := c.Fetch(1, life); was != r[2]|3 || got || !slices.Equal(*l, trial.Does(trial.Reads(0, api.Slot, 1, w), trial.Loses(0, api.Slot, 1, w, r[2], r[2]|3))) {
				t.Errorf("%#x lost in the life %d: %#x, %+v", w, life, was, *l)
			}
		}
	}
}

// put and get tell that they are what goes.
func put(c *Call, val uint32) api.Code {
	c.Write(api.Tail, 0, uint64(val))
	return api.Full
}

func get(c *Call) (api.Code, uint32) {
	c.Write(api.Head, 0, uint64(c.Thread)<<48|uint64(c.Segments)<<32|uint64(c.Size)<<16|uint64(c.First))
	return api.Wait, 9
}

// A run's Puts and Gets go as they are handed in, by the thread, the segments, the slots and the draw; a Collect as layer 5 tells.
func TestRun(t *testing.T) {
	for kind := api.Queue; kind <= api.Stack; kind++ {
		c := api.Config{Kind: kind, K: 3, T: 2, M: 5}
		x, e := Run(kind, c, [][]api.Op{{trial.Put(7)}, {trial.Get(), trial.Collect()}}, trial.Drawn(1<<32-2, 0, 2, 1, 9), put, get)
		head := x.Steps[1]
		if e != api.OK || len(x.Steps) != 8 || x.Steps[0].Access != trial.Write(api.Tail, 0, 7) || head.Access != trial.Write(api.Head, 0, 1<<48|5<<32|3<<16|2) {
			t.Fatalf("%v %+v", e, x.Steps)
		}
		if want := []api.Call{
			{Thread: 0, Kind: api.Put, Val: 7, Code: api.Full},
			{Thread: 1, Kind: api.Get, Val: trial.Top, From: 1, To: 1, Code: api.Wait, Out: 9},
			{Thread: 1, Kind: api.Collect, Val: trial.Top, From: 2, To: 7},
		}; !slices.Equal(x.Calls, want) {
			t.Errorf("%+v", x.Calls)
		}
	}
}

// What no layer runs, and what the layer of a kind doesn't.
func TestRunArg(t *testing.T) {
	for kind := api.Queue; kind <= api.Stack; kind++ {
		for _, n := range append(trial.Wrong(kind, trial.Put(5)), trial.WrongFor(kind)...) {
			if x, e := Run(kind, n.Config, n.Calls, n.Picks, put, get); e != api.Arg || !trial.Same(x, api.Trace{}) {
				t.Errorf("%v %v: %+v %v", n.Config, n.Calls, x, e)
			}
		}
	}
}
