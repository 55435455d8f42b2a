package fifo

import (
	"math"
	"slices"
	"testing"

	"shunting/api"
	"shunting/store"
	"shunting/trial"
)

// top is the greatest number of 32 bits.
const top = 1<<32 - 1

// The calls; just a Put's Val has a say.
func put(val uint32) api.Op { return api.Op{Kind: api.Put, Val: val} }

func get() api.Op { return api.Op{Kind: api.Get, Val: top} }

func collect() api.Op { return api.Op{Kind: api.Collect, Val: top} }

// queue is a config.
func queue(slots, threads, segments int) api.Config {
	return api.Config{Kind: api.Queue, K: slots, T: threads, M: segments}
}

// drawn are turns as trial.Turns has them, but all with this draw.
func drawn(draw uint32, l ...int) []api.Pick {
	picks := trial.Turns(l...)
	for i := range picks {
		picks[i].Draw = draw
	}
	return picks
}

// does are steps, as a part of a run's.
func does(steps ...api.Step) []api.Step { return steps }

// pins are the steps of a thread that pins itself in an epoch, which doesn't go on meanwhile.
func pins(thread int, epoch uint64) []api.Step {
	return does(trial.Reads(thread, api.Epoch, 0, epoch), trial.Writes(thread, api.Pin, thread, 0, epoch+1), trial.Reads(thread, api.Epoch, 0, epoch))
}

// drops is the step of a thread that lets go.
func drops(thread int, epoch uint64) []api.Step {
	return does(trial.Writes(thread, api.Pin, thread, epoch+1, 0))
}

// takes are the steps of a thread that takes a segment off a free list that is f, and goes on with l.
func takes(thread int, f, l uint64) []api.Step {
	return does(trial.Reads(thread, api.Free, 0, f), trial.Reads(thread, api.Link, int(f&top)-1, l), trial.Swaps(thread, api.Free, 0, f, f&^top+1<<32|l&top))
}

// ran holds a run against its steps from the one of that number on, and answers its trace; the words at the end must be those behind all steps.
func ran(t *testing.T, c api.Config, l [][]api.Op, picks []api.Pick, from int, parts ...[]api.Step) api.Trace {
	t.Helper()
	x, e := Run(c, l, picks)
	if e != api.OK || len(x.Steps) < from {
		t.Fatalf("%d steps, %v", len(x.Steps), e)
	}
	steps := slices.Concat(parts...)
	if !slices.Equal(x.Steps[from:], steps) {
		t.Errorf("from %d on: %+v, not %+v", from, x.Steps[from:], steps)
	}
	if end, e := store.Replay(c, x.Steps); e != api.OK || !trial.SameMem(x.End, end) {
		t.Errorf("the words at the end: %+v, not %+v", x.End, end)
	}
	return x
}

// came holds the calls of a trace against what was told of them.
func came(t *testing.T, x api.Trace, calls ...api.Call) {
	t.Helper()
	if !slices.Equal(x.Calls, calls) {
		t.Errorf("%+v, not %+v", x.Calls, calls)
	}
}

// P6.1, P6.2 and the chapter's example: a segment has one slot; what is put second goes into a segment behind it, and the first one is retired when it is spent.
func TestAlone(t *testing.T) {
	l := [][]api.Op{{put(5), put(6), get(), get(), get()}}
	x := ran(t, queue(1, 1, 3), l, trial.Turns(0, 60), 0,
		pins(0, 0), does(trial.Reads(0, api.Tail, 0, 1), trial.Reads(0, api.Slot, 0, 0), trial.Swaps(0, api.Slot, 0, 0, 6)), drops(0, 0),
		pins(0, 0), does(trial.Reads(0, api.Tail, 0, 1), trial.Reads(0, api.Slot, 0, 6), trial.Reads(0, api.Next, 0, 0)), takes(0, 2, 3),
		does(trial.Writes(0, api.Next, 1, 0, 0), trial.Writes(0, api.Slot, 1, 0, 7), trial.Swaps(0, api.Next, 0, 0, 2), trial.Swaps(0, api.Tail, 0, 1, 2)), drops(0, 0),
		pins(0, 0), does(trial.Reads(0, api.Head, 0, 1), trial.Reads(0, api.Slot, 0, 6), trial.Swaps(0, api.Slot, 0, 6, 1<<32)), drops(0, 0),
		pins(0, 0), does(trial.Reads(0, api.Head, 0, 1), trial.Reads(0, api.Slot, 0, 1<<32), trial.Reads(0, api.Next, 0, 2), trial.Reads(0, api.Tail, 0, 2), trial.Swaps(0, api.Head, 0, 1, 2),
			trial.Reads(0, api.Epoch, 0, 0), trial.Reads(0, api.Limbo, 0, 0), trial.Writes(0, api.Link, 0, 0, 1<<32), trial.Swaps(0, api.Limbo, 0, 0, 1),
			trial.Reads(0, api.Head, 0, 2), trial.Reads(0, api.Slot, 1, 7), trial.Swaps(0, api.Slot, 1, 7, 1<<32)), drops(0, 0),
		pins(0, 0), does(trial.Reads(0, api.Head, 0, 2), trial.Reads(0, api.Slot, 1, 1<<32), trial.Reads(0, api.Next, 1, 0)), drops(0, 0))
	came(t, x,
		api.Call{Kind: api.Put, Val: 5, From: 0, To: 6},
		api.Call{Kind: api.Put, Val: 6, From: 7, To: 20},
		api.Call{Kind: api.Get, Val: top, From: 21, To: 27, Out: 5},
		api.Call{Kind: api.Get, Val: top, From: 28, To: 43, Out: 6},
		api.Call{Kind: api.Get, Val: top, From: 44, To: 50, Code: api.Empty})
}

// P6.1: a call's slots begin with the Draw modulo K, of the pick that it begins with, and go round: of a Put, of a segment that it takes, and of a Get.
func TestDraw(t *testing.T) {
	for _, d := range []struct {
		draw    uint32
		a, b, c int // the slots, in their order
	}{{0, 0, 1, 2}, {4, 1, 2, 0}, {5, 2, 0, 1}, {1<<31 - 1, 1, 2, 0}, {1 << 31, 2, 0, 1}, {1<<32 - 2, 2, 0, 1}, {1<<32 - 1, 0, 1, 2}} {
		picks := drawn(d.draw+1, 0, 200)
		for _, first := range []int{0, 7, 15, 24, 40, 47} {
			picks[first].Draw = d.draw
		}
		ran(t, queue(3, 1, 2), [][]api.Op{{put(5), put(6), put(7), put(8), get(), get()}}, picks, 0,
			pins(0, 0), does(trial.Reads(0, api.Tail, 0, 1), trial.Reads(0, api.Slot, d.a, 0), trial.Swaps(0, api.Slot, d.a, 0, 6)), drops(0, 0),
			pins(0, 0), does(trial.Reads(0, api.Tail, 0, 1), trial.Reads(0, api.Slot, d.a, 6), trial.Reads(0, api.Slot, d.b, 0), trial.Swaps(0, api.Slot, d.b, 0, 7)), drops(0, 0),
			pins(0, 0), does(trial.Reads(0, api.Tail, 0, 1), trial.Reads(0, api.Slot, d.a, 6), trial.Reads(0, api.Slot, d.b, 7), trial.Reads(0, api.Slot, d.c, 0), trial.Swaps(0, api.Slot, d.c, 0, 8)), drops(0, 0),
			pins(0, 0), does(trial.Reads(0, api.Tail, 0, 1), trial.Reads(0, api.Slot, d.a, 6), trial.Reads(0, api.Slot, d.b, 7), trial.Reads(0, api.Slot, d.c, 8), trial.Reads(0, api.Next, 0, 0)), takes(0, 2, 0),
			does(trial.Writes(0, api.Next, 1, 0, 0), trial.Writes(0, api.Slot, 3+d.a, 0, 9), trial.Swaps(0, api.Next, 0, 0, 2), trial.Swaps(0, api.Tail, 0, 1, 2)), drops(0, 0),
			pins(0, 0), does(trial.Reads(0, api.Head, 0, 1), trial.Reads(0, api.Slot, d.a, 6), trial.Swaps(0, api.Slot, d.a, 6, 1<<32)), drops(0, 0),
			pins(0, 0), does(trial.Reads(0, api.Head, 0, 1), trial.Reads(0, api.Slot, d.a, 1<<32), trial.Reads(0, api.Slot, d.b, 7), trial.Swaps(0, api.Slot, d.b, 7, 1<<32)), drops(0, 0))
	}
}

// P6.1: a Put that loses the race for a slot goes on with the next one, behind the last one to a segment of its own.
func TestPutLosesSlot(t *testing.T) {
	l := [][]api.Op{{put(5)}, {put(6)}}
	ran(t, queue(2, 2, 3), l, drawn(0, 0, 5, 1, 7, 0, 9), 0,
		pins(0, 0), does(trial.Reads(0, api.Tail, 0, 1), trial.Reads(0, api.Slot, 0, 0)),
		pins(1, 0), does(trial.Reads(1, api.Tail, 0, 1), trial.Reads(1, api.Slot, 0, 0), trial.Swaps(1, api.Slot, 0, 0, 7)), drops(1, 0),
		does(trial.Loses(0, api.Slot, 0, 0, 6, 7), trial.Reads(0, api.Slot, 1, 0), trial.Swaps(0, api.Slot, 1, 0, 6)), drops(0, 0))
	ran(t, queue(1, 2, 3), l, drawn(0, 0, 5, 1, 7, 0, 19), 12,
		does(trial.Loses(0, api.Slot, 0, 0, 6, 7), trial.Reads(0, api.Next, 0, 0)), takes(0, 2, 3),
		does(trial.Writes(0, api.Next, 1, 0, 0), trial.Writes(0, api.Slot, 1, 0, 6), trial.Swaps(0, api.Next, 0, 0, 2), trial.Swaps(0, api.Tail, 0, 1, 2)), drops(0, 0))
}

// P6.1: a Put that loses the race for Next moves Tail for who won it, and links the segment that it holds behind that one's, neither taking nor writing anything any more; who won it loses the races for Tail.
func TestPutLosesNext(t *testing.T) {
	l := [][]api.Op{{put(4), put(5)}, {put(6)}}
	x := ran(t, queue(1, 2, 4), l, trial.Turns(0, 18, 1, 12, 0, 20, 1, 9), 7,
		pins(0, 0), does(trial.Reads(0, api.Tail, 0, 1), trial.Reads(0, api.Slot, 0, 5), trial.Reads(0, api.Next, 0, 0)), takes(0, 2, 3),
		does(trial.Writes(0, api.Next, 1, 0, 0), trial.Writes(0, api.Slot, 1, 0, 6)),
		pins(1, 0), does(trial.Reads(1, api.Tail, 0, 1), trial.Reads(1, api.Slot, 0, 5), trial.Reads(1, api.Next, 0, 0)), takes(1, 1<<32|3, 4),
		does(trial.Writes(1, api.Next, 2, 0, 0), trial.Writes(1, api.Slot, 2, 0, 7), trial.Swaps(1, api.Next, 0, 0, 3)),
		does(trial.Loses(0, api.Next, 0, 0, 2, 3),
			trial.Reads(0, api.Tail, 0, 1), trial.Reads(0, api.Slot, 0, 5), trial.Reads(0, api.Next, 0, 3), trial.Swaps(0, api.Tail, 0, 1, 3),
			trial.Reads(0, api.Tail, 0, 3), trial.Reads(0, api.Slot, 2, 7), trial.Reads(0, api.Next, 2, 0), trial.Swaps(0, api.Next, 2, 0, 2), trial.Swaps(0, api.Tail, 0, 3, 2)), drops(0, 0),
		does(trial.Loses(1, api.Tail, 0, 1, 3, 2)), drops(1, 0))
	came(t, x,
		api.Call{Thread: 0, Kind: api.Put, Val: 4, From: 0, To: 6},
		api.Call{Thread: 0, Kind: api.Put, Val: 5, From: 7, To: 40},
		api.Call{Thread: 1, Kind: api.Put, Val: 6, From: 18, To: 42})
}

// P6.1: a Put that finds a segment behind the one that it saw, and loses the race for Tail, looks at Tail anew.
func TestPutLosesTail(t *testing.T) {
	l := [][]api.Op{{put(4), put(5)}, {put(6)}}
	ran(t, queue(1, 2, 4), l, trial.Turns(0, 19, 1, 6, 0, 2, 1, 20), 18,
		does(trial.Swaps(0, api.Next, 0, 0, 2)),
		pins(1, 0), does(trial.Reads(1, api.Tail, 0, 1), trial.Reads(1, api.Slot, 0, 5), trial.Reads(1, api.Next, 0, 2)),
		does(trial.Swaps(0, api.Tail, 0, 1, 2)), drops(0, 0),
		does(trial.Loses(1, api.Tail, 0, 1, 2, 2), trial.Reads(1, api.Tail, 0, 2), trial.Reads(1, api.Slot, 1, 6), trial.Reads(1, api.Next, 1, 0)), takes(1, 1<<32|3, 4),
		does(trial.Writes(1, api.Next, 2, 0, 0), trial.Writes(1, api.Slot, 2, 0, 7), trial.Swaps(1, api.Next, 1, 0, 3), trial.Swaps(1, api.Tail, 0, 2, 3)), drops(1, 0))
}

// P6.1: a Put that holds a segment, and finds a slot after all, gives it back, bare again, ahead of letting go.
func TestPutGivesBack(t *testing.T) {
	l := [][]api.Op{{put(3), put(4), put(5)}, {put(6)}}
	x := ran(t, queue(2, 2, 3), l, drawn(0, 0, 27, 1, 15, 0, 20), 15,
		pins(0, 0), does(trial.Reads(0, api.Tail, 0, 1), trial.Reads(0, api.Slot, 0, 4), trial.Reads(0, api.Slot, 1, 5), trial.Reads(0, api.Next, 0, 0)), takes(0, 2, 3),
		does(trial.Writes(0, api.Next, 1, 0, 0), trial.Writes(0, api.Slot, 2, 0, 6)),
		pins(1, 0), does(trial.Reads(1, api.Tail, 0, 1), trial.Reads(1, api.Slot, 0, 4), trial.Reads(1, api.Slot, 1, 5), trial.Reads(1, api.Next, 0, 0)), takes(1, 1<<32|3, 0),
		does(trial.Writes(1, api.Next, 2, 0, 0), trial.Writes(1, api.Slot, 4, 0, 7), trial.Swaps(1, api.Next, 0, 0, 3), trial.Swaps(1, api.Tail, 0, 1, 3)), drops(1, 0),
		does(trial.Loses(0, api.Next, 0, 0, 2, 3), trial.Reads(0, api.Tail, 0, 3), trial.Reads(0, api.Slot, 4, 7), trial.Reads(0, api.Slot, 5, 0), trial.Swaps(0, api.Slot, 5, 0, 6),
			trial.Writes(0, api.Slot, 2, 6, 0), trial.Reads(0, api.Free, 0, 2<<32), trial.Writes(0, api.Link, 1, 3, 0), trial.Swaps(0, api.Free, 0, 2<<32, 3<<32|2)), drops(0, 0))
	if last := x.Calls[len(x.Calls)-2]; last != (api.Call{Thread: 0, Kind: api.Put, Val: 5, From: 15, To: 51}) {
		t.Errorf("%+v", last)
	}
}

// P6.1 and P6.2: a Put for which there is no segment comes out NoMem, and lets go; also of a queue that is empty, as long as its segments are in limbo.
func TestNoMem(t *testing.T) {
	l := [][]api.Op{{put(5), put(6), put(7), get(), get(), put(8)}}
	x := ran(t, queue(1, 1, 2), l, trial.Turns(0, 70), 52,
		pins(0, 0), does(trial.Reads(0, api.Tail, 0, 2), trial.Reads(0, api.Slot, 1, 1<<32), trial.Reads(0, api.Next, 1, 0), trial.Reads(0, api.Free, 0, 1<<32)), drops(0, 0))
	came(t, x,
		api.Call{Kind: api.Put, Val: 5, From: 0, To: 6},
		api.Call{Kind: api.Put, Val: 6, From: 7, To: 20},
		api.Call{Kind: api.Put, Val: 7, From: 21, To: 28, Code: api.NoMem},
		api.Call{Kind: api.Get, Val: top, From: 29, To: 35, Out: 5},
		api.Call{Kind: api.Get, Val: top, From: 36, To: 51, Out: 6},
		api.Call{Kind: api.Put, Val: 8, From: 52, To: 59, Code: api.NoMem})
}

// P6.1, P6.2: a segment that was collected is linked anew: of its next life, its Next being none again.
func TestSecondLife(t *testing.T) {
	l := [][]api.Op{{put(5), put(6), get(), get(), collect(), collect(), put(7), get(), get()}}
	x := ran(t, queue(1, 1, 2), l, trial.Turns(0, 120), 59,
		pins(0, 2), does(trial.Reads(0, api.Tail, 0, 2), trial.Reads(0, api.Slot, 1, 1<<32), trial.Reads(0, api.Next, 1, 0)), takes(0, 2<<32|1, 1<<32),
		does(trial.Writes(0, api.Next, 0, 2, 0), trial.Writes(0, api.Slot, 0, 1<<32, 1<<32|8), trial.Swaps(0, api.Next, 1, 0, 1<<32|1), trial.Swaps(0, api.Tail, 0, 2, 1<<32|1)), drops(0, 2),
		pins(0, 2), does(trial.Reads(0, api.Head, 0, 2), trial.Reads(0, api.Slot, 1, 1<<32), trial.Reads(0, api.Next, 1, 1<<32|1), trial.Reads(0, api.Tail, 0, 1<<32|1), trial.Swaps(0, api.Head, 0, 2, 1<<32|1),
			trial.Reads(0, api.Epoch, 0, 2), trial.Reads(0, api.Limbo, 2, 0), trial.Writes(0, api.Link, 1, 0, 1<<32), trial.Swaps(0, api.Limbo, 2, 0, 2<<32|2),
			trial.Reads(0, api.Head, 0, 1<<32|1), trial.Reads(0, api.Slot, 0, 1<<32|8), trial.Swaps(0, api.Slot, 0, 1<<32|8, 2<<32)), drops(0, 2),
		pins(0, 2), does(trial.Reads(0, api.Head, 0, 1<<32|1), trial.Reads(0, api.Slot, 0, 2<<32), trial.Reads(0, api.Next, 0, 0)), drops(0, 2))
	came(t, x,
		api.Call{Kind: api.Put, Val: 5, From: 0, To: 6},
		api.Call{Kind: api.Put, Val: 6, From: 7, To: 20},
		api.Call{Kind: api.Get, Val: top, From: 21, To: 27, Out: 5},
		api.Call{Kind: api.Get, Val: top, From: 28, To: 43, Out: 6},
		api.Call{Kind: api.Collect, Val: top, From: 44, To: 48},
		api.Call{Kind: api.Collect, Val: top, From: 49, To: 58},
		api.Call{Kind: api.Put, Val: 7, From: 59, To: 72},
		api.Call{Kind: api.Get, Val: top, From: 73, To: 88, Out: 7},
		api.Call{Kind: api.Get, Val: top, From: 89, To: 95, Code: api.Empty})
}

// P6.1, P6.2: a Get that sees bare slots looks twice, in the same order, ahead of Empty; also if others are spent.
func TestGetEmpty(t *testing.T) {
	x := ran(t, queue(2, 1, 2), [][]api.Op{{get(), put(5), get(), get()}}, drawn(3, 0, 40), 0,
		pins(0, 0), does(trial.Reads(0, api.Head, 0, 1), trial.Reads(0, api.Slot, 1, 0), trial.Reads(0, api.Slot, 0, 0), trial.Reads(0, api.Slot, 1, 0), trial.Reads(0, api.Slot, 0, 0)), drops(0, 0),
		pins(0, 0), does(trial.Reads(0, api.Tail, 0, 1), trial.Reads(0, api.Slot, 1, 0), trial.Swaps(0, api.Slot, 1, 0, 6)), drops(0, 0),
		pins(0, 0), does(trial.Reads(0, api.Head, 0, 1), trial.Reads(0, api.Slot, 1, 6), trial.Swaps(0, api.Slot, 1, 6, 1<<32)), drops(0, 0),
		pins(0, 0), does(trial.Reads(0, api.Head, 0, 1), trial.Reads(0, api.Slot, 1, 1<<32), trial.Reads(0, api.Slot, 0, 0), trial.Reads(0, api.Slot, 1, 1<<32), trial.Reads(0, api.Slot, 0, 0)), drops(0, 0))
	came(t, x,
		api.Call{Kind: api.Get, Val: top, From: 0, To: 8, Code: api.Empty},
		api.Call{Kind: api.Put, Val: 5, From: 9, To: 15},
		api.Call{Kind: api.Get, Val: top, From: 16, To: 22, Out: 5},
		api.Call{Kind: api.Get, Val: top, From: 23, To: 31, Code: api.Empty})
}

// looked are the steps of the thread 0 that pins itself and looks at two bare slots once.
func looked() []api.Step {
	return slices.Concat(pins(0, 0), does(trial.Reads(0, api.Head, 0, 1), trial.Reads(0, api.Slot, 0, 0), trial.Reads(0, api.Slot, 1, 0)))
}

// put9 and get9 are the steps of the thread 1 that puts 9 into the slot 0, and gets it.
func put9() []api.Step {
	return slices.Concat(pins(1, 0), does(trial.Reads(1, api.Tail, 0, 1), trial.Reads(1, api.Slot, 0, 0), trial.Swaps(1, api.Slot, 0, 0, 10)), drops(1, 0))
}

func get9() []api.Step {
	return slices.Concat(pins(1, 0), does(trial.Reads(1, api.Head, 0, 1), trial.Reads(1, api.Slot, 0, 10), trial.Swaps(1, api.Slot, 0, 10, 1<<32)), drops(1, 0))
}

// again are the steps of the thread 0 that looks at a spent slot and a bare one twice, from Head on, and lets go.
func again() []api.Step {
	return slices.Concat(does(trial.Reads(0, api.Head, 0, 1), trial.Reads(0, api.Slot, 0, 1<<32), trial.Reads(0, api.Slot, 1, 0), trial.Reads(0, api.Slot, 0, 1<<32), trial.Reads(0, api.Slot, 1, 0)), drops(0, 0))
}

// P6.1: what a Get's second look finds: a value, one that another one gets first, a slot that was put and got meanwhile; and a first look that loses a race remembers what was there last.
func TestGetLooksTwice(t *testing.T) {
	c, l := queue(2, 2, 2), [][]api.Op{{get()}, {put(9), get()}}
	ran(t, c, l, drawn(0, 0, 6, 1, 7, 0, 9), 0,
		looked(), put9(), does(trial.Reads(0, api.Slot, 0, 10), trial.Swaps(0, api.Slot, 0, 10, 1<<32)), drops(0, 0))
	ran(t, c, l, drawn(0, 0, 6, 1, 7, 0, 1, 1, 7, 0, 20), 0,
		looked(), put9(), does(trial.Reads(0, api.Slot, 0, 10)), get9(), does(trial.Loses(0, api.Slot, 0, 10, 1<<32, 1<<32)), again())
	ran(t, c, l, drawn(0, 0, 6, 1, 14, 0, 20), 0,
		looked(), put9(), get9(), does(trial.Reads(0, api.Slot, 0, 1<<32)), again())
	ran(t, c, l, drawn(0, 1, 7, 0, 5, 1, 7, 0, 20), 0,
		put9(), pins(0, 0), does(trial.Reads(0, api.Head, 0, 1), trial.Reads(0, api.Slot, 0, 10)), get9(),
		does(trial.Loses(0, api.Slot, 0, 10, 1<<32, 1<<32), trial.Reads(0, api.Slot, 1, 0), trial.Reads(0, api.Slot, 0, 1<<32), trial.Reads(0, api.Slot, 1, 0)), drops(0, 0))
}

// P6.1: a second look that finds the last slot's value gets it, having found the others as they were.
func TestGetLooksTwiceLast(t *testing.T) {
	ran(t, queue(2, 2, 2), [][]api.Op{{get()}, {put(9)}}, append(drawn(1, 0, 6), drawn(0, 1, 7, 0, 9)...), 6,
		put9(), does(trial.Reads(0, api.Slot, 1, 0), trial.Reads(0, api.Slot, 0, 10), trial.Swaps(0, api.Slot, 0, 10, 1<<32)), drops(0, 0))
}

// P6.1: Gets that go on to the next segment: Tail goes first, by whoever sees it behind; who doesn't move Head doesn't retire.
func TestGetLosesHead(t *testing.T) {
	l := [][]api.Op{{put(5), put(6)}, {get(), get()}, {get()}}
	x := ran(t, queue(1, 3, 3), l, trial.Turns(0, 19, 1, 14, 2, 9, 1, 30, 2, 30, 0, 9), 26,
		pins(1, 0), does(trial.Reads(1, api.Head, 0, 1), trial.Reads(1, api.Slot, 0, 1<<32), trial.Reads(1, api.Next, 0, 2), trial.Reads(1, api.Tail, 0, 1)),
		pins(2, 0), does(trial.Reads(2, api.Head, 0, 1), trial.Reads(2, api.Slot, 0, 1<<32), trial.Reads(2, api.Next, 0, 2), trial.Reads(2, api.Tail, 0, 1), trial.Swaps(2, api.Tail, 0, 1, 2), trial.Swaps(2, api.Head, 0, 1, 2)),
		does(trial.Loses(1, api.Tail, 0, 1, 2, 2), trial.Loses(1, api.Head, 0, 1, 2, 2), trial.Reads(1, api.Head, 0, 2), trial.Reads(1, api.Slot, 1, 7), trial.Swaps(1, api.Slot, 1, 7, 1<<32)), drops(1, 0),
		does(trial.Reads(2, api.Epoch, 0, 0), trial.Reads(2, api.Limbo, 0, 0), trial.Writes(2, api.Link, 0, 0, 1<<32), trial.Swaps(2, api.Limbo, 0, 0, 1),
			trial.Reads(2, api.Head, 0, 2), trial.Reads(2, api.Slot, 1, 1<<32), trial.Reads(2, api.Next, 1, 0)), drops(2, 0),
		does(trial.Loses(0, api.Tail, 0, 1, 2, 2)), drops(0, 0))
	came(t, x,
		api.Call{Thread: 0, Kind: api.Put, Val: 5, From: 0, To: 6},
		api.Call{Thread: 0, Kind: api.Put, Val: 6, From: 7, To: 57},
		api.Call{Thread: 1, Kind: api.Get, Val: top, From: 19, To: 25, Out: 5},
		api.Call{Thread: 1, Kind: api.Get, Val: top, From: 26, To: 47, Out: 6},
		api.Call{Thread: 2, Kind: api.Get, Val: top, From: 33, To: 55, Code: api.Empty})
}

// P6.1: a Get that loses the race for a segment's last value goes on, as the segment is spent then.
func TestGetLosesLast(t *testing.T) {
	l := [][]api.Op{{get()}, {put(9), get()}}
	ran(t, queue(1, 2, 2), l, drawn(0, 1, 7, 0, 5, 1, 7, 0, 9), 0,
		put9(), pins(0, 0), does(trial.Reads(0, api.Head, 0, 1), trial.Reads(0, api.Slot, 0, 10)), get9(),
		does(trial.Loses(0, api.Slot, 0, 10, 1<<32, 1<<32), trial.Reads(0, api.Next, 0, 0)), drops(0, 0))
}

// P6.1: calls pin themselves by the epoch that is, and a Collect goes by their pins.
func TestPinned(t *testing.T) {
	l := [][]api.Op{{put(5)}, {collect(), collect()}}
	x := ran(t, queue(1, 2, 2), l, trial.Turns(0, 1, 1, 6, 0, 3, 1, 6, 0, 9), 0,
		does(trial.Reads(0, api.Epoch, 0, 0)),
		does(trial.Reads(1, api.Epoch, 0, 0), trial.Reads(1, api.Pin, 0, 0), trial.Reads(1, api.Pin, 1, 0), trial.Swaps(1, api.Epoch, 0, 0, 1), trial.Reads(1, api.Epoch, 0, 1), trial.Reads(1, api.Limbo, 2, 0)),
		does(trial.Writes(0, api.Pin, 0, 0, 1), trial.Reads(0, api.Epoch, 0, 1), trial.Writes(0, api.Pin, 0, 1, 2)),
		does(trial.Reads(1, api.Epoch, 0, 1), trial.Reads(1, api.Pin, 0, 2), trial.Reads(1, api.Pin, 1, 0), trial.Swaps(1, api.Epoch, 0, 1, 2), trial.Reads(1, api.Epoch, 0, 2), trial.Reads(1, api.Limbo, 0, 0)),
		does(trial.Reads(0, api.Epoch, 0, 2), trial.Writes(0, api.Pin, 0, 2, 3), trial.Reads(0, api.Epoch, 0, 2), trial.Reads(0, api.Tail, 0, 1), trial.Reads(0, api.Slot, 0, 0), trial.Swaps(0, api.Slot, 0, 0, 6), trial.Writes(0, api.Pin, 0, 3, 0)))
	came(t, x,
		api.Call{Thread: 0, Kind: api.Put, Val: 5, From: 0, To: 22},
		api.Call{Thread: 1, Kind: api.Collect, Val: top, From: 1, To: 6},
		api.Call{Thread: 1, Kind: api.Collect, Val: top, From: 10, To: 15})
}

// P6.2: the values from 0 to MaxVal are told as they are.
func TestValues(t *testing.T) {
	for _, val := range []uint32{0, 1, 1<<31 - 1, 1 << 31, api.MaxVal - 1, api.MaxVal} {
		x := ran(t, queue(1, 1, 2), [][]api.Op{{put(val), get()}}, trial.Turns(0, 20), 5,
			does(trial.Swaps(0, api.Slot, 0, 0, uint64(val)+1)), drops(0, 0),
			pins(0, 0), does(trial.Reads(0, api.Head, 0, 1), trial.Reads(0, api.Slot, 0, uint64(val)+1), trial.Swaps(0, api.Slot, 0, uint64(val)+1, 1<<32)), drops(0, 0))
		came(t, x,
			api.Call{Kind: api.Put, Val: val, From: 0, To: 6},
			api.Call{Kind: api.Get, Val: top, From: 7, To: 13, Out: val})
	}
}

// P6.2: calls that aren't over, threads without calls or without turns, picks of none.
func TestNotOver(t *testing.T) {
	l := [][]api.Op{{put(5), get()}, nil, {get()}, {collect()}}
	x := ran(t, queue(1, 4, 2), l, trial.Picked(2, -1, 0, 4, 1, 0, 2, math.MinInt, math.MaxInt), 0,
		does(trial.Reads(2, api.Epoch, 0, 0), trial.Reads(0, api.Epoch, 0, 0), trial.Writes(0, api.Pin, 0, 0, 1), trial.Writes(2, api.Pin, 2, 0, 1)))
	came(t, x,
		api.Call{Thread: 2, Kind: api.Get, Val: top, From: 0, To: -1},
		api.Call{Thread: 0, Kind: api.Put, Val: 5, From: 1, To: -1})
	came(t, ran(t, queue(1, 4, 2), l, nil, 0))
	came(t, ran(t, queue(1, 2, 2), [][]api.Op{nil, {}}, trial.Turns(0, 3, 1, 3), 0))
}

// nothing holds a run against nothing, and Arg.
func nothing(t *testing.T, n trial.Input) {
	t.Helper()
	if x, e := Run(n.Config, n.Calls, n.Picks); e != api.Arg || !trial.Same(x, api.Trace{}) {
		t.Errorf("%v, %d lists, %d picks: %+v %v", n.Config, len(n.Calls), len(n.Picks), x, e)
	}
}

// P6.2: what no layer runs.
func TestArg(t *testing.T) {
	for _, o := range []api.Op{put(5), get(), collect()} {
		for _, n := range trial.Wrong(api.Queue, o) {
			nothing(t, n)
		}
	}
}

// P6.2: a config that may be, but is no Queue's.
func TestOtherConfig(t *testing.T) {
	for _, kind := range []int{api.Ring, api.Stack} {
		c := queue(1, 2, 2)
		c.Kind = kind
		for _, l := range [][][]api.Op{{nil, nil}, {{put(5)}, {get()}}, {{collect()}, nil}} {
			nothing(t, trial.Input{Config: c, Calls: l})
			nothing(t, trial.Input{Config: c, Calls: l, Picks: trial.Turns(0, 9, 1, 9)})
		}
	}
}

// P6.2: a call of another Kind, or a Put of what is no value, wherever it stands, and whether it begins or not.
func TestOtherCall(t *testing.T) {
	wrong := []api.Op{put(api.MaxVal + 1)}
	for _, kind := range []int{api.Take, api.Give, api.Hold, api.Drop, api.Retire, 0, -1, 9, -api.Put, 1<<8 + api.Put, 1<<16 + api.Get, 1<<32 + api.Get, 1<<32 + api.Collect, math.MinInt, math.MaxInt} {
		wrong = append(wrong, api.Op{Kind: kind, Val: 1})
	}
	for _, o := range wrong {
		for _, l := range [][][]api.Op{
			{{o}, nil},
			{{put(5), get(), o}, {collect()}},
			{nil, {o, get()}},
			{{put(6)}, {collect(), o, collect()}},
		} {
			for _, picks := range [][]api.Pick{nil, trial.Turns(0, 1), trial.Turns(0, 9, 1, 9)} {
				nothing(t, trial.Input{Config: queue(1, 2, 2), Calls: l, Picks: picks})
			}
		}
	}
}

// Rule 3: what is handed in isn't changed, its spare room neither, and answers share nothing.
func TestOwn(t *testing.T) {
	n := trial.Input{Config: queue(1, 2, 3), Calls: [][]api.Op{{put(5), put(6), get()}, {get(), get(), collect()}}, Picks: trial.Turns(0, 2, 1, 3, 0, 17, 1, 30, 0, 9)}
	if s := trial.Meddles(Run, n, expected(n.Config, n.Calls, n.Picks)); s != "" {
		t.Error(s)
	}
}
