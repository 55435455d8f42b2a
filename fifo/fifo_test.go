package fifo

import (
	"math"
	"slices"
	"testing"

	"shunting/api"
	"shunting/trial"
)

// queue is a config.
func queue(slots, threads, segments int) api.Config {
	return api.Config{Kind: api.Queue, K: slots, T: threads, M: segments}
}

// ran holds a run against its steps from the one of that number on, and answers its trace.
func ran(t *testing.T, c api.Config, l [][]api.Op, picks []api.Pick, from int, parts ...[]api.Step) api.Trace {
	t.Helper()
	x, e := Run(c, l, picks)
	if s := trial.Ran(c, x, from, parts...); e != api.OK || s != "" {
		t.Fatalf("%v, %s: %+v, not %+v", e, s, x, parts)
	}
	return x
}

// came holds the calls of a trace against what was told of them.
func came(t *testing.T, x api.Trace, calls ...api.Call) {
	t.Helper()
	if !slices.Equal(x.Calls, calls) {
		t.Errorf("%+v, not %+v", x.Calls, calls)
	}
}

// P6.1, P6.2 and the chapter's example: a segment has one slot; what is put second goes into a segment behind it, and the first one is retired when it is spent.
func TestAlone(t *testing.T) {
	l := [][]api.Op{{trial.Put(5), trial.Put(6), trial.Get(), trial.Get(), trial.Get()}}
	x := ran(t, queue(1, 1, 3), l, trial.Turns(0, 60), 0,
		trial.Pinning(0, 0), trial.Does(trial.Reads(0, api.Tail, 0, 1), trial.Reads(0, api.Slot, 0, 0), trial.Swaps(0, api.Slot, 0, 0, 6)), trial.LettingGo(0, 0),
		trial.Pinning(0, 0), trial.Does(trial.Reads(0, api.Tail, 0, 1), trial.Reads(0, api.Slot, 0, 6), trial.Reads(0, api.Next, 0, 0)), trial.Taking(0, 2, 3),
		trial.Does(trial.Writes(0, api.Next, 1, 0, 0), trial.Writes(0, api.Slot, 1, 0, 7), trial.Swaps(0, api.Next, 0, 0, 2), trial.Swaps(0, api.Tail, 0, 1, 2)), trial.LettingGo(0, 0),
		trial.Pinning(0, 0), trial.Does(trial.Reads(0, api.Head, 0, 1), trial.Reads(0, api.Slot, 0, 6), trial.Swaps(0, api.Slot, 0, 6, 1<<32)), trial.LettingGo(0, 0),
		trial.Pinning(0, 0), trial.Does(trial.Reads(0, api.Head, 0, 1), trial.Reads(0, api.Slot, 0, 1<<32), trial.Reads(0, api.Next, 0, 2), trial.Reads(0, api.Tail, 0, 2), trial.Swaps(0, api.Head, 0, 1, 2),
			trial.Reads(0, api.Epoch, 0, 0), trial.Reads(0, api.Limbo, 0, 0), trial.Writes(0, api.Link, 0, 0, 1<<32), trial.Swaps(0, api.Limbo, 0, 0, 1),
			trial.Reads(0, api.Head, 0, 2), trial.Reads(0, api.Slot, 1, 7), trial.Swaps(0, api.Slot, 1, 7, 1<<32)), trial.LettingGo(0, 0),
		trial.Pinning(0, 0), trial.Does(trial.Reads(0, api.Head, 0, 2), trial.Reads(0, api.Slot, 1, 1<<32), trial.Reads(0, api.Next, 1, 0)), trial.LettingGo(0, 0))
	came(t, x,
		api.Call{Kind: api.Put, Val: 5, From: 0, To: 6},
		api.Call{Kind: api.Put, Val: 6, From: 7, To: 20},
		api.Call{Kind: api.Get, Val: trial.Top, From: 21, To: 27, Out: 5},
		api.Call{Kind: api.Get, Val: trial.Top, From: 28, To: 43, Out: 6},
		api.Call{Kind: api.Get, Val: trial.Top, From: 44, To: 50, Code: api.Empty})
}

// P6.1: a call's slots begin with the Draw modulo K, of the pick that it begins with, and go round: of a Put, of a segment that it takes, and of a Get.
func TestDraw(t *testing.T) {
	for _, d := range []struct {
		draw    uint32
		a, b, c int // the slots, in their order
	}{{0, 0, 1, 2}, {4, 1, 2, 0}, {5, 2, 0, 1}, {1<<31 - 1, 1, 2, 0}, {1 << 31, 2, 0, 1}, {1<<32 - 2, 2, 0, 1}, {1<<32 - 1, 0, 1, 2}} {
		picks := trial.Drawn(d.draw+1, 0, 200)
		for _, first := range []int{0, 7, 15, 24, 40, 47} {
			picks[first].Draw = d.draw
		}
		ran(t, queue(3, 1, 2), [][]api.Op{{trial.Put(5), trial.Put(6), trial.Put(7), trial.Put(8), trial.Get(), trial.Get()}}, picks, 0,
			trial.Pinning(0, 0), trial.Does(trial.Reads(0, api.Tail, 0, 1), trial.Reads(0, api.Slot, d.a, 0), trial.Swaps(0, api.Slot, d.a, 0, 6)), trial.LettingGo(0, 0),
			trial.Pinning(0, 0), trial.Does(trial.Reads(0, api.Tail, 0, 1), trial.Reads(0, api.Slot, d.a, 6), trial.Reads(0, api.Slot, d.b, 0), trial.Swaps(0, api.Slot, d.b, 0, 7)), trial.LettingGo(0, 0),
			trial.Pinning(0, 0), trial.Does(trial.Reads(0, api.Tail, 0, 1), trial.Reads(0, api.Slot, d.a, 6), trial.Reads(0, api.Slot, d.b, 7), trial.Reads(0, api.Slot, d.c, 0), trial.Swaps(0, api.Slot, d.c, 0, 8)), trial.LettingGo(0, 0),
			trial.Pinning(0, 0), trial.Does(trial.Reads(0, api.Tail, 0, 1), trial.Reads(0, api.Slot, d.a, 6), trial.Reads(0, api.Slot, d.b, 7), trial.Reads(0, api.Slot, d.c, 8), trial.Reads(0, api.Next, 0, 0)), trial.Taking(0, 2, 0),
			trial.Does(trial.Writes(0, api.Next, 1, 0, 0), trial.Writes(0, api.Slot, 3+d.a, 0, 9), trial.Swaps(0, api.Next, 0, 0, 2), trial.Swaps(0, api.Tail, 0, 1, 2)), trial.LettingGo(0, 0),
			trial.Pinning(0, 0), trial.Does(trial.Reads(0, api.Head, 0, 1), trial.Reads(0, api.Slot, d.a, 6), trial.Swaps(0, api.Slot, d.a, 6, 1<<32)), trial.LettingGo(0, 0),
			trial.Pinning(0, 0), trial.Does(trial.Reads(0, api.Head, 0, 1), trial.Reads(0, api.Slot, d.a, 1<<32), trial.Reads(0, api.Slot, d.b, 7), trial.Swaps(0, api.Slot, d.b, 7, 1<<32)), trial.LettingGo(0, 0))
	}
}

// P6.1: a Put that loses the race for a slot goes on with the next one, behind the last one to a segment of its own.
func TestPutLosesSlot(t *testing.T) {
	l := [][]api.Op{{trial.Put(5)}, {trial.Put(6)}}
	ran(t, queue(2, 2, 3), l, trial.Drawn(0, 0, 5, 1, 7, 0, 9), 0,
		trial.Pinning(0, 0), trial.Does(trial.Reads(0, api.Tail, 0, 1), trial.Reads(0, api.Slot, 0, 0)),
		trial.Pinning(1, 0), trial.Does(trial.Reads(1, api.Tail, 0, 1), trial.Reads(1, api.Slot, 0, 0), trial.Swaps(1, api.Slot, 0, 0, 7)), trial.LettingGo(1, 0),
		trial.Does(trial.Loses(0, api.Slot, 0, 0, 6, 7), trial.Reads(0, api.Slot, 1, 0), trial.Swaps(0, api.Slot, 1, 0, 6)), trial.LettingGo(0, 0))
	ran(t, queue(1, 2, 3), l, trial.Drawn(0, 0, 5, 1, 7, 0, 19), 12,
		trial.Does(trial.Loses(0, api.Slot, 0, 0, 6, 7), trial.Reads(0, api.Next, 0, 0)), trial.Taking(0, 2, 3),
		trial.Does(trial.Writes(0, api.Next, 1, 0, 0), trial.Writes(0, api.Slot, 1, 0, 6), trial.Swaps(0, api.Next, 0, 0, 2), trial.Swaps(0, api.Tail, 0, 1, 2)), trial.LettingGo(0, 0))
}

// P6.1: a Put that loses the race for Next moves Tail for who won it, and links the segment that it holds behind that one's, neither taking nor writing anything any more; who won it loses the races for Tail.
func TestPutLosesNext(t *testing.T) {
	l := [][]api.Op{{trial.Put(4), trial.Put(5)}, {trial.Put(6)}}
	x := ran(t, queue(1, 2, 4), l, trial.Turns(0, 18, 1, 12, 0, 20, 1, 9), 7,
		trial.Pinning(0, 0), trial.Does(trial.Reads(0, api.Tail, 0, 1), trial.Reads(0, api.Slot, 0, 5), trial.Reads(0, api.Next, 0, 0)), trial.Taking(0, 2, 3),
		trial.Does(trial.Writes(0, api.Next, 1, 0, 0), trial.Writes(0, api.Slot, 1, 0, 6)),
		trial.Pinning(1, 0), trial.Does(trial.Reads(1, api.Tail, 0, 1), trial.Reads(1, api.Slot, 0, 5), trial.Reads(1, api.Next, 0, 0)), trial.Taking(1, 1<<32|3, 4),
		trial.Does(trial.Writes(1, api.Next, 2, 0, 0), trial.Writes(1, api.Slot, 2, 0, 7), trial.Swaps(1, api.Next, 0, 0, 3)),
		trial.Does(trial.Loses(0, api.Next, 0, 0, 2, 3),
			trial.Reads(0, api.Tail, 0, 1), trial.Reads(0, api.Slot, 0, 5), trial.Reads(0, api.Next, 0, 3), trial.Swaps(0, api.Tail, 0, 1, 3),
			trial.Reads(0, api.Tail, 0, 3), trial.Reads(0, api.Slot, 2, 7), trial.Reads(0, api.Next, 2, 0), trial.Swaps(0, api.Next, 2, 0, 2), trial.Swaps(0, api.Tail, 0, 3, 2)), trial.LettingGo(0, 0),
		trial.Does(trial.Loses(1, api.Tail, 0, 1, 3, 2)), trial.LettingGo(1, 0))
	came(t, x,
		api.Call{Thread: 0, Kind: api.Put, Val: 4, From: 0, To: 6},
		api.Call{Thread: 0, Kind: api.Put, Val: 5, From: 7, To: 40},
		api.Call{Thread: 1, Kind: api.Put, Val: 6, From: 18, To: 42})
}

// P6.1: a Put that finds a segment behind the one that it saw, and loses the race for Tail, looks at Tail anew.
func TestPutLosesTail(t *testing.T) {
	l := [][]api.Op{{trial.Put(4), trial.Put(5)}, {trial.Put(6)}}
	ran(t, queue(1, 2, 4), l, trial.Turns(0, 19, 1, 6, 0, 2, 1, 20), 18,
		trial.Does(trial.Swaps(0, api.Next, 0, 0, 2)),
		trial.Pinning(1, 0), trial.Does(trial.Reads(1, api.Tail, 0, 1), trial.Reads(1, api.Slot, 0, 5), trial.Reads(1, api.Next, 0, 2)),
		trial.Does(trial.Swaps(0, api.Tail, 0, 1, 2)), trial.LettingGo(0, 0),
		trial.Does(trial.Loses(1, api.Tail, 0, 1, 2, 2), trial.Reads(1, api.Tail, 0, 2), trial.Reads(1, api.Slot, 1, 6), trial.Reads(1, api.Next, 1, 0)), trial.Taking(1, 1<<32|3, 4),
		trial.Does(trial.Writes(1, api.Next, 2, 0, 0), trial.Writes(1, api.Slot, 2, 0, 7), trial.Swaps(1, api.Next, 1, 0, 3), trial.Swaps(1, api.Tail, 0, 2, 3)), trial.LettingGo(1, 0))
}

// P6.1: a Put that holds a segment, and finds a slot after all, gives it back, bare again, ahead of letting go.
func TestPutGivesBack(t *testing.T) {
	l := [][]api.Op{{trial.Put(3), trial.Put(4), trial.Put(5)}, {trial.Put(6)}}
	x := ran(t, queue(2, 2, 3), l, trial.Drawn(0, 0, 27, 1, 15, 0, 20), 15,
		trial.Pinning(0, 0), trial.Does(trial.Reads(0, api.Tail, 0, 1), trial.Reads(0, api.Slot, 0, 4), trial.Reads(0, api.Slot, 1, 5), trial.Reads(0, api.Next, 0, 0)), trial.Taking(0, 2, 3),
		trial.Does(trial.Writes(0, api.Next, 1, 0, 0), trial.Writes(0, api.Slot, 2, 0, 6)),
		trial.Pinning(1, 0), trial.Does(trial.Reads(1, api.Tail, 0, 1), trial.Reads(1, api.Slot, 0, 4), trial.Reads(1, api.Slot, 1, 5), trial.Reads(1, api.Next, 0, 0)), trial.Taking(1, 1<<32|3, 0),
		trial.Does(trial.Writes(1, api.Next, 2, 0, 0), trial.Writes(1, api.Slot, 4, 0, 7), trial.Swaps(1, api.Next, 0, 0, 3), trial.Swaps(1, api.Tail, 0, 1, 3)), trial.LettingGo(1, 0),
		trial.Does(trial.Loses(0, api.Next, 0, 0, 2, 3), trial.Reads(0, api.Tail, 0, 3), trial.Reads(0, api.Slot, 4, 7), trial.Reads(0, api.Slot, 5, 0), trial.Swaps(0, api.Slot, 5, 0, 6),
			trial.Writes(0, api.Slot, 2, 6, 0), trial.Reads(0, api.Free, 0, 2<<32), trial.Writes(0, api.Link, 1, 3, 0), trial.Swaps(0, api.Free, 0, 2<<32, 3<<32|2)), trial.LettingGo(0, 0))
	if last := x.Calls[len(x.Calls)-2]; last != (api.Call{Thread: 0, Kind: api.Put, Val: 5, From: 15, To: 51}) {
		t.Errorf("%+v", last)
	}
}

// P6.1 and P6.2: a Put for which there is no segment comes out NoMem, and lets go; also of a queue that is empty, as long as its segments are in limbo.
func TestNoMem(t *testing.T) {
	l := [][]api.Op{{trial.Put(5), trial.Put(6), trial.Put(7), trial.Get(), trial.Get(), trial.Put(8)}}
	x := ran(t, queue(1, 1, 2), l, trial.Turns(0, 70), 52,
		trial.Pinning(0, 0), trial.Does(trial.Reads(0, api.Tail, 0, 2), trial.Reads(0, api.Slot, 1, 1<<32), trial.Reads(0, api.Next, 1, 0), trial.Reads(0, api.Free, 0, 1<<32)), trial.LettingGo(0, 0))
	came(t, x,
		api.Call{Kind: api.Put, Val: 5, From: 0, To: 6},
		api.Call{Kind: api.Put, Val: 6, From: 7, To: 20},
		api.Call{Kind: api.Put, Val: 7, From: 21, To: 28, Code: api.NoMem},
		api.Call{Kind: api.Get, Val: trial.Top, From: 29, To: 35, Out: 5},
		api.Call{Kind: api.Get, Val: trial.Top, From: 36, To: 51, Out: 6},
		api.Call{Kind: api.Put, Val: 8, From: 52, To: 59, Code: api.NoMem})
}

// P6.1, P6.2: a segment that was collected is linked anew: of its next life, its Next being none again.
func TestSecondLife(t *testing.T) {
	l := [][]api.Op{{trial.Put(5), trial.Put(6), trial.Get(), trial.Get(), trial.Collect(), trial.Collect(), trial.Put(7), trial.Get(), trial.Get()}}
	x := ran(t, queue(1, 1, 2), l, trial.Turns(0, 120), 59,
		trial.Pinning(0, 2), trial.Does(trial.Reads(0, api.Tail, 0, 2), trial.Reads(0, api.Slot, 1, 1<<32), trial.Reads(0, api.Next, 1, 0)), trial.Taking(0, 2<<32|1, 1<<32),
		trial.Does(trial.Writes(0, api.Next, 0, 2, 0), trial.Writes(0, api.Slot, 0, 1<<32, 1<<32|8), trial.Swaps(0, api.Next, 1, 0, 1<<32|1), trial.Swaps(0, api.Tail, 0, 2, 1<<32|1)), trial.LettingGo(0, 2),
		trial.Pinning(0, 2), trial.Does(trial.Reads(0, api.Head, 0, 2), trial.Reads(0, api.Slot, 1, 1<<32), trial.Reads(0, api.Next, 1, 1<<32|1), trial.Reads(0, api.Tail, 0, 1<<32|1), trial.Swaps(0, api.Head, 0, 2, 1<<32|1),
			trial.Reads(0, api.Epoch, 0, 2), trial.Reads(0, api.Limbo, 2, 0), trial.Writes(0, api.Link, 1, 0, 1<<32), trial.Swaps(0, api.Limbo, 2, 0, 2<<32|2),
			trial.Reads(0, api.Head, 0, 1<<32|1), trial.Reads(0, api.Slot, 0, 1<<32|8), trial.Swaps(0, api.Slot, 0, 1<<32|8, 2<<32)), trial.LettingGo(0, 2),
		trial.Pinning(0, 2), trial.Does(trial.Reads(0, api.Head, 0, 1<<32|1), trial.Reads(0, api.Slot, 0, 2<<32), trial.Reads(0, api.Next, 0, 0)), trial.LettingGo(0, 2))
	came(t, x,
		api.Call{Kind: api.Put, Val: 5, From: 0, To: 6},
		api.Call{Kind: api.Put, Val: 6, From: 7, To: 20},
		api.Call{Kind: api.Get, Val: trial.Top, From: 21, To: 27, Out: 5},
		api.Call{Kind: api.Get, Val: trial.Top, From: 28, To: 43, Out: 6},
		api.Call{Kind: api.Collect, Val: trial.Top, From: 44, To: 48},
		api.Call{Kind: api.Collect, Val: trial.Top, From: 49, To: 58},
		api.Call{Kind: api.Put, Val: 7, From: 59, To: 72},
		api.Call{Kind: api.Get, Val: trial.Top, From: 73, To: 88, Out: 7},
		api.Call{Kind: api.Get, Val: trial.Top, From: 89, To: 95, Code: api.Empty})
}

// P6.1, P6.2: a Get that sees bare slots looks twice, in the same order, ahead of Empty; also if others are spent.
func TestGetEmpty(t *testing.T) {
	x := ran(t, queue(2, 1, 2), [][]api.Op{{trial.Get(), trial.Put(5), trial.Get(), trial.Get()}}, trial.Drawn(3, 0, 40), 0,
		trial.Pinning(0, 0), trial.Does(trial.Reads(0, api.Head, 0, 1), trial.Reads(0, api.Slot, 1, 0), trial.Reads(0, api.Slot, 0, 0), trial.Reads(0, api.Slot, 1, 0), trial.Reads(0, api.Slot, 0, 0)), trial.LettingGo(0, 0),
		trial.Pinning(0, 0), trial.Does(trial.Reads(0, api.Tail, 0, 1), trial.Reads(0, api.Slot, 1, 0), trial.Swaps(0, api.Slot, 1, 0, 6)), trial.LettingGo(0, 0),
		trial.Pinning(0, 0), trial.Does(trial.Reads(0, api.Head, 0, 1), trial.Reads(0, api.Slot, 1, 6), trial.Swaps(0, api.Slot, 1, 6, 1<<32)), trial.LettingGo(0, 0),
		trial.Pinning(0, 0), trial.Does(trial.Reads(0, api.Head, 0, 1), trial.Reads(0, api.Slot, 1, 1<<32), trial.Reads(0, api.Slot, 0, 0), trial.Reads(0, api.Slot, 1, 1<<32), trial.Reads(0, api.Slot, 0, 0)), trial.LettingGo(0, 0))
	came(t, x,
		api.Call{Kind: api.Get, Val: trial.Top, From: 0, To: 8, Code: api.Empty},
		api.Call{Kind: api.Put, Val: 5, From: 9, To: 15},
		api.Call{Kind: api.Get, Val: trial.Top, From: 16, To: 22, Out: 5},
		api.Call{Kind: api.Get, Val: trial.Top, From: 23, To: 31, Code: api.Empty})
}

// looked are the steps of the thread 0 that pins itself and looks at two bare slots once.
func looked() []api.Step {
	return slices.Concat(trial.Pinning(0, 0), trial.Does(trial.Reads(0, api.Head, 0, 1), trial.Reads(0, api.Slot, 0, 0), trial.Reads(0, api.Slot, 1, 0)))
}

// put9 and get9 are the steps of the thread 1 that puts 9 into the slot 0, and gets it.
func put9() []api.Step {
	return slices.Concat(trial.Pinning(1, 0), trial.Does(trial.Reads(1, api.Tail, 0, 1), trial.Reads(1, api.Slot, 0, 0), trial.Swaps(1, api.Slot, 0, 0, 10)), trial.LettingGo(1, 0))
}

func get9() []api.Step {
	return slices.Concat(trial.Pinning(1, 0), trial.Does(trial.Reads(1, api.Head, 0, 1), trial.Reads(1, api.Slot, 0, 10), trial.Swaps(1, api.Slot, 0, 10, 1<<32)), trial.LettingGo(1, 0))
}

// again are the steps of the thread 0 that looks at a spent slot and a bare one twice, from Head on, and lets go.
func again() []api.Step {
	return slices.Concat(trial.Does(trial.Reads(0, api.Head, 0, 1), trial.Reads(0, api.Slot, 0, 1<<32), trial.Reads(0, api.Slot, 1, 0), trial.Reads(0, api.Slot, 0, 1<<32), trial.Reads(0, api.Slot, 1, 0)), trial.LettingGo(0, 0))
}

// P6.1: what a Get's second look finds: a value, one that another one gets first, a slot that was put and got meanwhile; and a first look that loses a race remembers what was there last.
func TestGetLooksTwice(t *testing.T) {
	c, l := queue(2, 2, 2), [][]api.Op{{trial.Get()}, {trial.Put(9), trial.Get()}}
	ran(t, c, l, trial.Drawn(0, 0, 6, 1, 7, 0, 9), 0,
		looked(), put9(), trial.Does(trial.Reads(0, api.Slot, 0, 10), trial.Swaps(0, api.Slot, 0, 10, 1<<32)), trial.LettingGo(0, 0))
	ran(t, c, l, trial.Drawn(0, 0, 6, 1, 7, 0, 1, 1, 7, 0, 20), 0,
		looked(), put9(), trial.Does(trial.Reads(0, api.Slot, 0, 10)), get9(), trial.Does(trial.Loses(0, api.Slot, 0, 10, 1<<32, 1<<32)), again())
	ran(t, c, l, trial.Drawn(0, 0, 6, 1, 14, 0, 20), 0,
		looked(), put9(), get9(), trial.Does(trial.Reads(0, api.Slot, 0, 1<<32)), again())
	ran(t, c, l, trial.Drawn(0, 1, 7, 0, 5, 1, 7, 0, 20), 0,
		put9(), trial.Pinning(0, 0), trial.Does(trial.Reads(0, api.Head, 0, 1), trial.Reads(0, api.Slot, 0, 10)), get9(),
		trial.Does(trial.Loses(0, api.Slot, 0, 10, 1<<32, 1<<32), trial.Reads(0, api.Slot, 1, 0), trial.Reads(0, api.Slot, 0, 1<<32), trial.Reads(0, api.Slot, 1, 0)), trial.LettingGo(0, 0))
}

// P6.1: a second look that finds the last slot's value gets it, having found the others as they were.
func TestGetLooksTwiceLast(t *testing.T) {
	ran(t, queue(2, 2, 2), [][]api.Op{{trial.Get()}, {trial.Put(9)}}, append(trial.Drawn(1, 0, 6), trial.Drawn(0, 1, 7, 0, 9)...), 6,
		put9(), trial.Does(trial.Reads(0, api.Slot, 1, 0), trial.Reads(0, api.Slot, 0, 10), trial.Swaps(0, api.Slot, 0, 10, 1<<32)), trial.LettingGo(0, 0))
}

// P6.1: Gets that go on to the next segment: Tail goes first, by whoever sees it behind; who doesn't move Head doesn't retire.
func TestGetLosesHead(t *testing.T) {
	l := [][]api.Op{{trial.Put(5), trial.Put(6)}, {trial.Get(), trial.Get()}, {trial.Get()}}
	x := ran(t, queue(1, 3, 3), l, trial.Turns(0, 19, 1, 14, 2, 9, 1, 30, 2, 30, 0, 9), 26,
		trial.Pinning(1, 0), trial.Does(trial.Reads(1, api.Head, 0, 1), trial.Reads(1, api.Slot, 0, 1<<32), trial.Reads(1, api.Next, 0, 2), trial.Reads(1, api.Tail, 0, 1)),
		trial.Pinning(2, 0), trial.Does(trial.Reads(2, api.Head, 0, 1), trial.Reads(2, api.Slot, 0, 1<<32), trial.Reads(2, api.Next, 0, 2), trial.Reads(2, api.Tail, 0, 1), trial.Swaps(2, api.Tail, 0, 1, 2), trial.Swaps(2, api.Head, 0, 1, 2)),
		trial.Does(trial.Loses(1, api.Tail, 0, 1, 2, 2), trial.Loses(1, api.Head, 0, 1, 2, 2), trial.Reads(1, api.Head, 0, 2), trial.Reads(1, api.Slot, 1, 7), trial.Swaps(1, api.Slot, 1, 7, 1<<32)), trial.LettingGo(1, 0),
		trial.Does(trial.Reads(2, api.Epoch, 0, 0), trial.Reads(2, api.Limbo, 0, 0), trial.Writes(2, api.Link, 0, 0, 1<<32), trial.Swaps(2, api.Limbo, 0, 0, 1),
			trial.Reads(2, api.Head, 0, 2), trial.Reads(2, api.Slot, 1, 1<<32), trial.Reads(2, api.Next, 1, 0)), trial.LettingGo(2, 0),
		trial.Does(trial.Loses(0, api.Tail, 0, 1, 2, 2)), trial.LettingGo(0, 0))
	came(t, x,
		api.Call{Thread: 0, Kind: api.Put, Val: 5, From: 0, To: 6},
		api.Call{Thread: 0, Kind: api.Put, Val: 6, From: 7, To: 57},
		api.Call{Thread: 1, Kind: api.Get, Val: trial.Top, From: 19, To: 25, Out: 5},
		api.Call{Thread: 1, Kind: api.Get, Val: trial.Top, From: 26, To: 47, Out: 6},
		api.Call{Thread: 2, Kind: api.Get, Val: trial.Top, From: 33, To: 55, Code: api.Empty})
}

// P6.1: a Get that loses the race for a segment's last value goes on, as the segment is spent then.
func TestGetLosesLast(t *testing.T) {
	l := [][]api.Op{{trial.Get()}, {trial.Put(9), trial.Get()}}
	ran(t, queue(1, 2, 2), l, trial.Drawn(0, 1, 7, 0, 5, 1, 7, 0, 9), 0,
		put9(), trial.Pinning(0, 0), trial.Does(trial.Reads(0, api.Head, 0, 1), trial.Reads(0, api.Slot, 0, 10)), get9(),
		trial.Does(trial.Loses(0, api.Slot, 0, 10, 1<<32, 1<<32), trial.Reads(0, api.Next, 0, 0)), trial.LettingGo(0, 0))
}

// P6.1: calls pin themselves by the epoch that is, and a Collect goes by their pins.
func TestPinned(t *testing.T) {
	l := [][]api.Op{{trial.Put(5)}, {trial.Collect(), trial.Collect()}}
	x := ran(t, queue(1, 2, 2), l, trial.Turns(0, 1, 1, 6, 0, 3, 1, 6, 0, 9), 0,
		trial.Does(trial.Reads(0, api.Epoch, 0, 0)),
		trial.Does(trial.Reads(1, api.Epoch, 0, 0), trial.Reads(1, api.Pin, 0, 0), trial.Reads(1, api.Pin, 1, 0), trial.Swaps(1, api.Epoch, 0, 0, 1), trial.Reads(1, api.Epoch, 0, 1), trial.Reads(1, api.Limbo, 2, 0)),
		trial.Does(trial.Writes(0, api.Pin, 0, 0, 1), trial.Reads(0, api.Epoch, 0, 1), trial.Writes(0, api.Pin, 0, 1, 2)),
		trial.Does(trial.Reads(1, api.Epoch, 0, 1), trial.Reads(1, api.Pin, 0, 2), trial.Reads(1, api.Pin, 1, 0), trial.Swaps(1, api.Epoch, 0, 1, 2), trial.Reads(1, api.Epoch, 0, 2), trial.Reads(1, api.Limbo, 0, 0)),
		trial.Does(trial.Reads(0, api.Epoch, 0, 2), trial.Writes(0, api.Pin, 0, 2, 3), trial.Reads(0, api.Epoch, 0, 2), trial.Reads(0, api.Tail, 0, 1), trial.Reads(0, api.Slot, 0, 0), trial.Swaps(0, api.Slot, 0, 0, 6), trial.Writes(0, api.Pin, 0, 3, 0)))
	came(t, x,
		api.Call{Thread: 0, Kind: api.Put, Val: 5, From: 0, To: 22},
		api.Call{Thread: 1, Kind: api.Collect, Val: trial.Top, From: 1, To: 6},
		api.Call{Thread: 1, Kind: api.Collect, Val: trial.Top, From: 10, To: 15})
}

// P6.2: the values from 0 to MaxVal are told as they are.
func TestValues(t *testing.T) {
	for _, val := range []uint32{0, 1, 1<<31 - 1, 1 << 31, api.MaxVal - 1, api.MaxVal} {
		x := ran(t, queue(1, 1, 2), [][]api.Op{{trial.Put(val), trial.Get()}}, trial.Turns(0, 20), 5,
			trial.Does(trial.Swaps(0, api.Slot, 0, 0, uint64(val)+1)), trial.LettingGo(0, 0),
			trial.Pinning(0, 0), trial.Does(trial.Reads(0, api.Head, 0, 1), trial.Reads(0, api.Slot, 0, uint64(val)+1), trial.Swaps(0, api.Slot, 0, uint64(val)+1, 1<<32)), trial.LettingGo(0, 0))
		came(t, x,
			api.Call{Kind: api.Put, Val: val, From: 0, To: 6},
			api.Call{Kind: api.Get, Val: trial.Top, From: 7, To: 13, Out: val})
	}
}

// P6.2: calls that aren't over, threads without calls or without turns, picks of none.
func TestNotOver(t *testing.T) {
	l := [][]api.Op{{trial.Put(5), trial.Get()}, nil, {trial.Get()}, {trial.Collect()}}
	x := ran(t, queue(1, 4, 2), l, trial.Picked(2, -1, 0, 4, 1, 0, 2, math.MinInt, math.MaxInt), 0,
		trial.Does(trial.Reads(2, api.Epoch, 0, 0), trial.Reads(0, api.Epoch, 0, 0), trial.Writes(0, api.Pin, 0, 0, 1), trial.Writes(2, api.Pin, 2, 0, 1)))
	came(t, x,
		api.Call{Thread: 2, Kind: api.Get, Val: trial.Top, From: 0, To: -1},
		api.Call{Thread: 0, Kind: api.Put, Val: 5, From: 1, To: -1})
	came(t, ran(t, queue(1, 4, 2), l, nil, 0))
	came(t, ran(t, queue(1, 2, 2), [][]api.Op{nil, {}}, trial.Turns(0, 3, 1, 3), 0))
}

// nothing holds a run against nothing, and Arg.
func nothing(t *testing.T, n trial.Input) {
	t.Helper()
	if x, e := Run(n.Config, n.Calls, n.Picks); e != api.Arg || !trial.Same(x, api.Trace{}) {
		t.Errorf("%v, %d lists, %d picks: %+v %v", n.Config, len(n.Calls), len(n.Picks), x, e)
	}
}

// P6.2: what no layer runs.
func TestArg(t *testing.T) {
	for _, o := range []api.Op{trial.Put(5), trial.Get(), trial.Collect()} {
		for _, n := range trial.Wrong(api.Queue, o) {
			nothing(t, n)
		}
	}
}

// P6.2: a config that may be, but is no Queue's; a call of another Kind; a Put of what is no value.
func TestArgOwn(t *testing.T) {
	for _, n := range trial.WrongFor(api.Queue) {
		nothing(t, n)
	}
}

// Rule 3: what is handed in isn't changed, its spare room neither, and answers share nothing.
func TestOwn(t *testing.T) {
	n := trial.Input{Config: queue(1, 2, 3), Calls: [][]api.Op{{trial.Put(5), trial.Put(6), trial.Get()}, {trial.Get(), trial.Get(), trial.Collect()}}, Picks: trial.Turns(0, 2, 1, 3, 0, 17, 1, 30, 0, 9)}
	if s := trial.Meddles(Run, n, expected(n.Config, n.Calls, n.Picks)); s != "" {
		t.Error(s)
	}
}
