package stack

import (
	"math"
	"slices"
	"testing"

	"shunting/api"
	"shunting/trial"
)

// pile is a config.
func pile(size, threads, segments int) api.Config {
	return api.Config{Kind: api.Stack, K: size, T: threads, M: segments}
}

// ran holds a run against its steps from the one of that number on, and answers its trace.
func ran(t *testing.T, c api.Config, l [][]api.Op, picks []api.Pick, from int, parts ...[]api.Step) api.Trace {
	t.Helper()
	x, e := Run(c, l, picks)
	if s := trial.Ran(c, x, from, parts...); e != api.OK || s != "" {
		t.Fatalf("%v, %s: %+v, not %+v", e, s, x, parts)
	}
	return x
}

// came holds the calls of a trace against what was told of them.
func came(t *testing.T, x api.Trace, calls ...api.Call) {
	t.Helper()
	if !slices.Equal(x.Calls, calls) {
		t.Errorf("%+v, not %+v", x.Calls, calls)
	}
}

// retires are the steps of a thread that retires a segment, that has this link, into the empty limbo of the epoch 0.
func retires(thread int, ref, link uint64) []api.Step {
	at := int(ref&trial.Low) - 1
	return trial.Does(trial.Reads(thread, api.Epoch, 0, 0), trial.Reads(thread, api.Limbo, 0, 0), trial.Writes(thread, api.Link, at, link, ref&^trial.Low+1<<32), trial.Swaps(thread, api.Limbo, 0, 0, ref&trial.Low))
}

// P7.1, P7.2 and the chapter's example: a segment has one slot; what is put second goes into a segment on top, and each one is retired when it is spent, the last one too.
func TestAlone(t *testing.T) {
	l := [][]api.Op{{trial.Put(5), trial.Put(6), trial.Get(), trial.Get(), trial.Get()}}
	x := ran(t, pile(1, 1, 3), l, trial.Turns(0, 70), 0,
		trial.Pinning(0, 0), trial.Does(trial.Reads(0, api.Head, 0, 0)), trial.Taking(0, 1, 2),
		trial.Does(trial.Writes(0, api.Slot, 0, 0, 6), trial.Writes(0, api.Next, 0, 0, 0), trial.Swaps(0, api.Head, 0, 0, 1)), trial.LettingGo(0, 0),
		trial.Pinning(0, 0), trial.Does(trial.Reads(0, api.Head, 0, 1), trial.Reads(0, api.Slot, 0, 6)), trial.Taking(0, 1<<32|2, 3),
		trial.Does(trial.Writes(0, api.Slot, 1, 0, 7), trial.Writes(0, api.Next, 1, 0, 1), trial.Swaps(0, api.Head, 0, 1, 2)), trial.LettingGo(0, 0),
		trial.Pinning(0, 0), trial.Does(trial.Reads(0, api.Head, 0, 2), trial.Reads(0, api.Slot, 1, 7), trial.Swaps(0, api.Slot, 1, 7, 1<<32)), trial.LettingGo(0, 0),
		trial.Pinning(0, 0), trial.Does(trial.Reads(0, api.Head, 0, 2), trial.Reads(0, api.Slot, 1, 1<<32), trial.Reads(0, api.Slot, 1, 1<<32), trial.Reads(0, api.Next, 1, 1), trial.Swaps(0, api.Head, 0, 2, 1)), retires(0, 2, 3),
		trial.Does(trial.Reads(0, api.Head, 0, 1), trial.Reads(0, api.Slot, 0, 6), trial.Swaps(0, api.Slot, 0, 6, 1<<32)), trial.LettingGo(0, 0),
		trial.Pinning(0, 0), trial.Does(trial.Reads(0, api.Head, 0, 1), trial.Reads(0, api.Slot, 0, 1<<32), trial.Reads(0, api.Slot, 0, 1<<32), trial.Reads(0, api.Next, 0, 0), trial.Swaps(0, api.Head, 0, 1, 0),
			trial.Reads(0, api.Epoch, 0, 0), trial.Reads(0, api.Limbo, 0, 2), trial.Writes(0, api.Link, 0, 2, 1<<32|2), trial.Swaps(0, api.Limbo, 0, 2, 1),
			trial.Reads(0, api.Head, 0, 0)), trial.LettingGo(0, 0))
	came(t, x,
		api.Call{Kind: api.Put, Val: 5, From: 0, To: 10},
		api.Call{Kind: api.Put, Val: 6, From: 11, To: 22},
		api.Call{Kind: api.Get, Val: trial.Top, From: 23, To: 29, Out: 6},
		api.Call{Kind: api.Get, Val: trial.Top, From: 30, To: 45, Out: 5},
		api.Call{Kind: api.Get, Val: trial.Top, From: 46, To: 59, Code: api.Empty})
}

// P7.1: a call's slots begin with the Draw modulo K, of the pick that it begins with, and go round: of a Put, of a segment that it takes, and of a Get, both times.
func TestDraw(t *testing.T) {
	for _, d := range []struct {
		draw    uint32
		a, b, c int // the slots, in their order
	}{{0, 0, 1, 2}, {4, 1, 2, 0}, {5, 2, 0, 1}, {1<<31 - 1, 1, 2, 0}, {1 << 31, 2, 0, 1}, {1<<32 - 2, 2, 0, 1}, {1<<32 - 1, 0, 1, 2}} {
		picks := trial.Drawn(d.draw+1, 0, 200)
		for _, first := range []int{0, 11, 19, 28, 42, 49} {
			picks[first].Draw = d.draw
		}
		ran(t, pile(3, 1, 2), [][]api.Op{{trial.Put(5), trial.Put(6), trial.Put(7), trial.Put(8), trial.Get(), trial.Get()}}, picks, 0,
			trial.Pinning(0, 0), trial.Does(trial.Reads(0, api.Head, 0, 0)), trial.Taking(0, 1, 2),
			trial.Does(trial.Writes(0, api.Slot, d.a, 0, 6), trial.Writes(0, api.Next, 0, 0, 0), trial.Swaps(0, api.Head, 0, 0, 1)), trial.LettingGo(0, 0),
			trial.Pinning(0, 0), trial.Does(trial.Reads(0, api.Head, 0, 1), trial.Reads(0, api.Slot, d.a, 6), trial.Reads(0, api.Slot, d.b, 0), trial.Swaps(0, api.Slot, d.b, 0, 7)), trial.LettingGo(0, 0),
			trial.Pinning(0, 0), trial.Does(trial.Reads(0, api.Head, 0, 1), trial.Reads(0, api.Slot, d.a, 6), trial.Reads(0, api.Slot, d.b, 7), trial.Reads(0, api.Slot, d.c, 0), trial.Swaps(0, api.Slot, d.c, 0, 8)), trial.LettingGo(0, 0),
			trial.Pinning(0, 0), trial.Does(trial.Reads(0, api.Head, 0, 1), trial.Reads(0, api.Slot, d.a, 6), trial.Reads(0, api.Slot, d.b, 7), trial.Reads(0, api.Slot, d.c, 8)), trial.Taking(0, 1<<32|2, 0),
			trial.Does(trial.Writes(0, api.Slot, 3+d.a, 0, 9), trial.Writes(0, api.Next, 1, 0, 1), trial.Swaps(0, api.Head, 0, 1, 2)), trial.LettingGo(0, 0),
			trial.Pinning(0, 0), trial.Does(trial.Reads(0, api.Head, 0, 2), trial.Reads(0, api.Slot, 3+d.a, 9), trial.Swaps(0, api.Slot, 3+d.a, 9, 1<<32)), trial.LettingGo(0, 0),
			trial.Pinning(0, 0), trial.Does(trial.Reads(0, api.Head, 0, 2), trial.Reads(0, api.Slot, 3+d.a, 1<<32), trial.Reads(0, api.Slot, 3+d.b, 0), trial.Reads(0, api.Slot, 3+d.c, 0),
				trial.Reads(0, api.Slot, 3+d.a, 1<<32), trial.Reads(0, api.Slot, 3+d.b, 0), trial.Swaps(0, api.Slot, 3+d.b, 0, 1<<32), trial.Reads(0, api.Slot, 3+d.c, 0), trial.Swaps(0, api.Slot, 3+d.c, 0, 1<<32),
				trial.Reads(0, api.Next, 1, 1), trial.Swaps(0, api.Head, 0, 2, 1)), retires(0, 2, 0),
			trial.Does(trial.Reads(0, api.Head, 0, 1), trial.Reads(0, api.Slot, d.a, 6), trial.Swaps(0, api.Slot, d.a, 6, 1<<32)), trial.LettingGo(0, 0))
	}
}

// P7.1: a Put that loses the race for a slot goes on with the next one, behind the last one to a segment of its own.
func TestPutLosesSlot(t *testing.T) {
	l := [][]api.Op{{trial.Put(4), trial.Put(5)}, {trial.Put(6)}}
	picks := trial.Drawn(0, 0, 17, 1, 8, 0, 20)
	ran(t, pile(3, 2, 3), l, picks, 11,
		trial.Pinning(0, 0), trial.Does(trial.Reads(0, api.Head, 0, 1), trial.Reads(0, api.Slot, 0, 5), trial.Reads(0, api.Slot, 1, 0)),
		trial.Pinning(1, 0), trial.Does(trial.Reads(1, api.Head, 0, 1), trial.Reads(1, api.Slot, 0, 5), trial.Reads(1, api.Slot, 1, 0), trial.Swaps(1, api.Slot, 1, 0, 7)), trial.LettingGo(1, 0),
		trial.Does(trial.Loses(0, api.Slot, 1, 0, 6, 7), trial.Reads(0, api.Slot, 2, 0), trial.Swaps(0, api.Slot, 2, 0, 6)), trial.LettingGo(0, 0))
	ran(t, pile(2, 2, 3), l, picks, 25,
		trial.Does(trial.Loses(0, api.Slot, 1, 0, 6, 7)), trial.Taking(0, 1<<32|2, 3),
		trial.Does(trial.Writes(0, api.Slot, 2, 0, 6), trial.Writes(0, api.Next, 1, 0, 1), trial.Swaps(0, api.Head, 0, 1, 2)), trial.LettingGo(0, 0))
}

// P7.1: a Put that loses the race for Head lays the segment that it holds on the one that is topmost then, neither taking one nor writing its slot any more.
func TestPutLosesHead(t *testing.T) {
	l := [][]api.Op{{trial.Put(4), trial.Put(5)}, {trial.Put(6)}}
	x := ran(t, pile(1, 2, 4), l, trial.Turns(0, 21, 1, 12, 0, 20), 11,
		trial.Pinning(0, 0), trial.Does(trial.Reads(0, api.Head, 0, 1), trial.Reads(0, api.Slot, 0, 5)), trial.Taking(0, 1<<32|2, 3),
		trial.Does(trial.Writes(0, api.Slot, 1, 0, 6), trial.Writes(0, api.Next, 1, 0, 1)),
		trial.Pinning(1, 0), trial.Does(trial.Reads(1, api.Head, 0, 1), trial.Reads(1, api.Slot, 0, 5)), trial.Taking(1, 2<<32|3, 4),
		trial.Does(trial.Writes(1, api.Slot, 2, 0, 7), trial.Writes(1, api.Next, 2, 0, 1), trial.Swaps(1, api.Head, 0, 1, 3)), trial.LettingGo(1, 0),
		trial.Does(trial.Loses(0, api.Head, 0, 1, 2, 3), trial.Reads(0, api.Head, 0, 3), trial.Reads(0, api.Slot, 2, 7), trial.Writes(0, api.Next, 1, 1, 3), trial.Swaps(0, api.Head, 0, 3, 2)), trial.LettingGo(0, 0))
	came(t, x,
		api.Call{Thread: 0, Kind: api.Put, Val: 4, From: 0, To: 10},
		api.Call{Thread: 0, Kind: api.Put, Val: 5, From: 11, To: 38},
		api.Call{Thread: 1, Kind: api.Put, Val: 6, From: 21, To: 32})
}

// P7.1: a Put that loses the race for Head to who took the last segment off has none below its own.
func TestPutLosesAll(t *testing.T) {
	l := [][]api.Op{{trial.Put(4), trial.Put(5)}, {trial.Get(), trial.Get()}}
	x := ran(t, pile(1, 2, 4), l, trial.Turns(0, 21, 1, 21, 0, 20), 28,
		trial.Pinning(1, 0), trial.Does(trial.Reads(1, api.Head, 0, 1), trial.Reads(1, api.Slot, 0, 1<<32), trial.Reads(1, api.Slot, 0, 1<<32), trial.Reads(1, api.Next, 0, 0), trial.Swaps(1, api.Head, 0, 1, 0)), retires(1, 1, 2),
		trial.Does(trial.Reads(1, api.Head, 0, 0)), trial.LettingGo(1, 0),
		trial.Does(trial.Loses(0, api.Head, 0, 1, 2, 0), trial.Reads(0, api.Head, 0, 0), trial.Writes(0, api.Next, 1, 1, 0), trial.Swaps(0, api.Head, 0, 0, 2)), trial.LettingGo(0, 0))
	came(t, x,
		api.Call{Thread: 0, Kind: api.Put, Val: 4, From: 0, To: 10},
		api.Call{Thread: 0, Kind: api.Put, Val: 5, From: 11, To: 46},
		api.Call{Thread: 1, Kind: api.Get, Val: trial.Top, From: 21, To: 27, Out: 4},
		api.Call{Thread: 1, Kind: api.Get, Val: trial.Top, From: 28, To: 41, Code: api.Empty})
}

// P7.1: a Put that holds a segment, and finds a slot after all, gives it back, bare again, ahead of letting go.
func TestPutGivesBack(t *testing.T) {
	l := [][]api.Op{{trial.Put(5)}, {trial.Put(6)}}
	x := ran(t, pile(2, 2, 3), l, trial.Drawn(1, 0, 9, 1, 11, 0, 20), 0,
		trial.Pinning(0, 0), trial.Does(trial.Reads(0, api.Head, 0, 0)), trial.Taking(0, 1, 2),
		trial.Does(trial.Writes(0, api.Slot, 1, 0, 6), trial.Writes(0, api.Next, 0, 0, 0)),
		trial.Pinning(1, 0), trial.Does(trial.Reads(1, api.Head, 0, 0)), trial.Taking(1, 1<<32|2, 3),
		trial.Does(trial.Writes(1, api.Slot, 3, 0, 7), trial.Writes(1, api.Next, 1, 0, 0), trial.Swaps(1, api.Head, 0, 0, 2)), trial.LettingGo(1, 0),
		trial.Does(trial.Loses(0, api.Head, 0, 0, 1, 2), trial.Reads(0, api.Head, 0, 2), trial.Reads(0, api.Slot, 3, 7), trial.Reads(0, api.Slot, 2, 0), trial.Swaps(0, api.Slot, 2, 0, 6),
			trial.Writes(0, api.Slot, 1, 6, 0), trial.Reads(0, api.Free, 0, 2<<32|3), trial.Writes(0, api.Link, 0, 2, 3), trial.Swaps(0, api.Free, 0, 2<<32|3, 3<<32|1)), trial.LettingGo(0, 0))
	came(t, x,
		api.Call{Thread: 0, Kind: api.Put, Val: 5, From: 0, To: 29},
		api.Call{Thread: 1, Kind: api.Put, Val: 6, From: 9, To: 19})
}

// P7.1 and P7.2: a Put for which there is no segment comes out NoMem, and lets go; also of a stack that is empty, its topmost segment being spent, or there being none, as long as its segments are in limbo.
func TestNoMem(t *testing.T) {
	l := [][]api.Op{{trial.Put(5), trial.Put(6), trial.Put(7), trial.Get(), trial.Get(), trial.Put(8), trial.Get(), trial.Put(9)}}
	x := ran(t, pile(1, 1, 2), l, trial.Turns(0, 99), 53,
		trial.Pinning(0, 0), trial.Does(trial.Reads(0, api.Head, 0, 1), trial.Reads(0, api.Slot, 0, 1<<32), trial.Reads(0, api.Free, 0, 2<<32)), trial.LettingGo(0, 0),
		trial.Pinning(0, 0), trial.Does(trial.Reads(0, api.Head, 0, 1), trial.Reads(0, api.Slot, 0, 1<<32), trial.Reads(0, api.Slot, 0, 1<<32), trial.Reads(0, api.Next, 0, 0), trial.Swaps(0, api.Head, 0, 1, 0),
			trial.Reads(0, api.Epoch, 0, 0), trial.Reads(0, api.Limbo, 0, 2), trial.Writes(0, api.Link, 0, 2, 1<<32|2), trial.Swaps(0, api.Limbo, 0, 2, 1), trial.Reads(0, api.Head, 0, 0)), trial.LettingGo(0, 0),
		trial.Pinning(0, 0), trial.Does(trial.Reads(0, api.Head, 0, 0), trial.Reads(0, api.Free, 0, 2<<32)), trial.LettingGo(0, 0))
	came(t, x,
		api.Call{Kind: api.Put, Val: 5, From: 0, To: 10},
		api.Call{Kind: api.Put, Val: 6, From: 11, To: 22},
		api.Call{Kind: api.Put, Val: 7, From: 23, To: 29, Code: api.NoMem},
		api.Call{Kind: api.Get, Val: trial.Top, From: 30, To: 36, Out: 6},
		api.Call{Kind: api.Get, Val: trial.Top, From: 37, To: 52, Out: 5},
		api.Call{Kind: api.Put, Val: 8, From: 53, To: 59, Code: api.NoMem},
		api.Call{Kind: api.Get, Val: trial.Top, From: 60, To: 73, Code: api.Empty},
		api.Call{Kind: api.Put, Val: 9, From: 74, To: 79, Code: api.NoMem})
}

// P7.1, P7.2: a segment that was collected is laid on top anew, of its next life.
func TestSecondLife(t *testing.T) {
	l := [][]api.Op{{trial.Put(5), trial.Get(), trial.Get(), trial.Collect(), trial.Collect(), trial.Put(7), trial.Get(), trial.Get()}}
	x := ran(t, pile(1, 1, 2), l, trial.Turns(0, 120), 47,
		trial.Pinning(0, 2), trial.Does(trial.Reads(0, api.Head, 0, 0)), trial.Taking(0, 2<<32|1, 1<<32|2),
		trial.Does(trial.Writes(0, api.Slot, 0, 1<<32, 1<<32|8), trial.Writes(0, api.Next, 0, 0, 0), trial.Swaps(0, api.Head, 0, 0, 1<<32|1)), trial.LettingGo(0, 2),
		trial.Pinning(0, 2), trial.Does(trial.Reads(0, api.Head, 0, 1<<32|1), trial.Reads(0, api.Slot, 0, 1<<32|8), trial.Swaps(0, api.Slot, 0, 1<<32|8, 2<<32)), trial.LettingGo(0, 2),
		trial.Pinning(0, 2), trial.Does(trial.Reads(0, api.Head, 0, 1<<32|1), trial.Reads(0, api.Slot, 0, 2<<32), trial.Reads(0, api.Slot, 0, 2<<32), trial.Reads(0, api.Next, 0, 0), trial.Swaps(0, api.Head, 0, 1<<32|1, 0),
			trial.Reads(0, api.Epoch, 0, 2), trial.Reads(0, api.Limbo, 2, 0), trial.Writes(0, api.Link, 0, 1<<32|2, 2<<32), trial.Swaps(0, api.Limbo, 2, 0, 2<<32|1), trial.Reads(0, api.Head, 0, 0)), trial.LettingGo(0, 2))
	came(t, x,
		api.Call{Kind: api.Put, Val: 5, From: 0, To: 10},
		api.Call{Kind: api.Get, Val: trial.Top, From: 11, To: 17, Out: 5},
		api.Call{Kind: api.Get, Val: trial.Top, From: 18, To: 31, Code: api.Empty},
		api.Call{Kind: api.Collect, Val: trial.Top, From: 32, To: 36},
		api.Call{Kind: api.Collect, Val: trial.Top, From: 37, To: 46},
		api.Call{Kind: api.Put, Val: 7, From: 47, To: 57},
		api.Call{Kind: api.Get, Val: trial.Top, From: 58, To: 64, Out: 7},
		api.Call{Kind: api.Get, Val: trial.Top, From: 65, To: 78, Code: api.Empty})
}

// P7.1, P7.2: a Get of a stack without a segment is Empty at once.
func TestGetNone(t *testing.T) {
	x := ran(t, pile(2, 2, 2), [][]api.Op{nil, {trial.Get()}}, trial.Turns(1, 9), 0,
		trial.Pinning(1, 0), trial.Does(trial.Reads(1, api.Head, 0, 0)), trial.LettingGo(1, 0))
	came(t, x, api.Call{Thread: 1, Kind: api.Get, Val: trial.Top, From: 0, To: 4, Code: api.Empty})
}

// looked are the steps of the thread 0 that pins itself and looks once at a segment of which the slot 0 is spent, and the slot 1 bare: from the slot 0 on.
func looked() []api.Step {
	return slices.Concat(trial.Pinning(0, 0), trial.Does(trial.Reads(0, api.Head, 0, 1), trial.Reads(0, api.Slot, 0, 1<<32), trial.Reads(0, api.Slot, 1, 0)))
}

// put9 and get9 are the steps of the thread 1 that puts 9 into the slot 1 of such a segment, and gets it; spent1 are those by which it spends that slot, and takes the segment off.
func put9() []api.Step {
	return slices.Concat(trial.Pinning(1, 0), trial.Does(trial.Reads(1, api.Head, 0, 1), trial.Reads(1, api.Slot, 0, 1<<32), trial.Reads(1, api.Slot, 1, 0), trial.Swaps(1, api.Slot, 1, 0, 10)), trial.LettingGo(1, 0))
}

func get9() []api.Step {
	return slices.Concat(trial.Pinning(1, 0), trial.Does(trial.Reads(1, api.Head, 0, 1), trial.Reads(1, api.Slot, 0, 1<<32), trial.Reads(1, api.Slot, 1, 10), trial.Swaps(1, api.Slot, 1, 10, 1<<32)), trial.LettingGo(1, 0))
}

func spent1() []api.Step {
	return slices.Concat(trial.Pinning(1, 0), trial.Does(trial.Reads(1, api.Head, 0, 1), trial.Reads(1, api.Slot, 0, 1<<32), trial.Reads(1, api.Slot, 1, 0), trial.Reads(1, api.Slot, 0, 1<<32), trial.Reads(1, api.Slot, 1, 0), trial.Swaps(1, api.Slot, 1, 0, 1<<32),
		trial.Reads(1, api.Next, 0, 0), trial.Swaps(1, api.Head, 0, 1, 0)), retires(1, 1, 2), trial.Does(trial.Reads(1, api.Head, 0, 0)), trial.LettingGo(1, 0))
}

// takenOff are the steps of the thread 0 that takes a spent segment off, the last one, retires it, and lets go.
func takenOff() []api.Step {
	return slices.Concat(trial.Does(trial.Reads(0, api.Next, 0, 0), trial.Swaps(0, api.Head, 0, 1, 0)), retires(0, 1, 2), trial.Does(trial.Reads(0, api.Head, 0, 0)), trial.LettingGo(0, 0))
}

// P7.1: what a Get's second look finds in a slot that was bare: a value; one that another one gets first, when it goes on with the next slot; one that was got meanwhile.
func TestGetLooksTwice(t *testing.T) {
	c, l := pile(2, 2, 2), [][]api.Op{{trial.Put(4), trial.Get(), trial.Get()}, {trial.Put(9), trial.Get()}}
	ran(t, c, l, trial.Drawn(0, 0, 18+6, 1, 8, 0, 20), 18,
		looked(), put9(), trial.Does(trial.Reads(0, api.Slot, 0, 1<<32), trial.Reads(0, api.Slot, 1, 10), trial.Swaps(0, api.Slot, 1, 10, 1<<32)), trial.LettingGo(0, 0))
	ran(t, c, l, trial.Drawn(0, 0, 18+6, 1, 8, 0, 2, 1, 8, 0, 20), 18,
		looked(), put9(), trial.Does(trial.Reads(0, api.Slot, 0, 1<<32), trial.Reads(0, api.Slot, 1, 10)), get9(), trial.Does(trial.Loses(0, api.Slot, 1, 10, 1<<32, 1<<32)), takenOff())
	ran(t, c, l, trial.Drawn(0, 0, 18+6, 1, 16, 0, 20), 18,
		looked(), put9(), get9(), trial.Does(trial.Reads(0, api.Slot, 0, 1<<32), trial.Reads(0, api.Slot, 1, 1<<32)), takenOff())
	picks := slices.Concat(trial.Drawn(0, 0, 18), trial.Drawn(1, 0, 6), trial.Drawn(0, 1, 8), trial.Drawn(1, 0, 1), trial.Drawn(0, 1, 8, 0, 20))
	ran(t, c, l, picks, 22,
		trial.Does(trial.Reads(0, api.Slot, 1, 0), trial.Reads(0, api.Slot, 0, 1<<32)), put9(), trial.Does(trial.Reads(0, api.Slot, 1, 10)), get9(),
		trial.Does(trial.Loses(0, api.Slot, 1, 10, 1<<32, 1<<32), trial.Reads(0, api.Slot, 0, 1<<32)), takenOff())
}

// P7.1: a Get that loses the race for a bare slot looks at the same one again: a value came, which it gets, or which another one gets first; or another one spent it.
func TestGetLosesBare(t *testing.T) {
	c, l := pile(2, 2, 2), [][]api.Op{{trial.Put(4), trial.Get(), trial.Get()}, {trial.Put(9), trial.Get()}}
	again := trial.Does(trial.Reads(0, api.Slot, 0, 1<<32), trial.Reads(0, api.Slot, 1, 0))
	lost := trial.Does(trial.Loses(0, api.Slot, 1, 0, 1<<32, 10), trial.Reads(0, api.Slot, 1, 10))
	ran(t, c, l, trial.Drawn(0, 0, 18+8, 1, 8, 0, 20), 18,
		looked(), again, put9(), lost, trial.Does(trial.Swaps(0, api.Slot, 1, 10, 1<<32)), trial.LettingGo(0, 0))
	ran(t, c, l, trial.Drawn(0, 0, 18+8, 1, 8, 0, 2, 1, 8, 0, 20), 18,
		looked(), again, put9(), lost, get9(), trial.Does(trial.Loses(0, api.Slot, 1, 10, 1<<32, 1<<32)), takenOff())
	l[1] = l[1][1:]
	ran(t, c, l, trial.Drawn(0, 0, 18+8, 1, 17, 0, 20), 18,
		looked(), again, spent1(), trial.Does(trial.Loses(0, api.Slot, 1, 0, 1<<32, 1<<32), trial.Reads(0, api.Slot, 1, 1<<32), trial.Reads(0, api.Next, 0, 0), trial.Loses(0, api.Head, 0, 1, 0, 0), trial.Reads(0, api.Head, 0, 0)), trial.LettingGo(0, 0))
}

// P7.1: a bare slot that is spent isn't looked at again; a Put that lost it to that goes on.
func TestPutLosesBare(t *testing.T) {
	l := [][]api.Op{{trial.Put(4), trial.Get(), trial.Get()}, {trial.Put(9)}}
	ran(t, pile(2, 2, 2), l, trial.Drawn(0, 0, 18, 1, 6, 0, 20, 1, 20), 18,
		trial.Pinning(1, 0), trial.Does(trial.Reads(1, api.Head, 0, 1), trial.Reads(1, api.Slot, 0, 1<<32), trial.Reads(1, api.Slot, 1, 0)),
		looked(), trial.Does(trial.Reads(0, api.Slot, 0, 1<<32), trial.Reads(0, api.Slot, 1, 0), trial.Swaps(0, api.Slot, 1, 0, 1<<32)), takenOff(),
		trial.Does(trial.Loses(1, api.Slot, 1, 0, 10, 1<<32)), trial.Taking(1, 1<<32|2, 0),
		trial.Does(trial.Writes(1, api.Slot, 2, 0, 10), trial.Writes(1, api.Next, 1, 0, 1), trial.Loses(1, api.Head, 0, 1, 2, 0), trial.Reads(1, api.Head, 0, 0), trial.Writes(1, api.Next, 1, 1, 0), trial.Swaps(1, api.Head, 0, 0, 2)), trial.LettingGo(1, 0))
}

// P7.1: a Get that loses the race for Head goes on from what is topmost then: one that was laid on top, or the one below, which another one has come to; it doesn't retire what it didn't take off.
func TestGetLosesHead(t *testing.T) {
	l := [][]api.Op{{trial.Put(5), trial.Put(6), trial.Get(), trial.Get()}, {trial.Put(7), trial.Get()}}
	ran(t, pile(1, 2, 3), l, trial.Turns(0, 37, 1, 12, 0, 20), 30,
		trial.Pinning(0, 0), trial.Does(trial.Reads(0, api.Head, 0, 2), trial.Reads(0, api.Slot, 1, 1<<32), trial.Reads(0, api.Slot, 1, 1<<32), trial.Reads(0, api.Next, 1, 1)),
		trial.Pinning(1, 0), trial.Does(trial.Reads(1, api.Head, 0, 2), trial.Reads(1, api.Slot, 1, 1<<32)), trial.Taking(1, 2<<32|3, 0),
		trial.Does(trial.Writes(1, api.Slot, 2, 0, 8), trial.Writes(1, api.Next, 2, 0, 2), trial.Swaps(1, api.Head, 0, 2, 3)), trial.LettingGo(1, 0),
		trial.Does(trial.Loses(0, api.Head, 0, 2, 1, 3), trial.Reads(0, api.Head, 0, 3), trial.Reads(0, api.Slot, 2, 8), trial.Swaps(0, api.Slot, 2, 8, 1<<32)), trial.LettingGo(0, 0))
	l[1] = l[1][1:]
	ran(t, pile(1, 2, 3), l, trial.Turns(0, 37, 1, 16, 0, 20), 37,
		trial.Pinning(1, 0), trial.Does(trial.Reads(1, api.Head, 0, 2), trial.Reads(1, api.Slot, 1, 1<<32), trial.Reads(1, api.Slot, 1, 1<<32), trial.Reads(1, api.Next, 1, 1), trial.Swaps(1, api.Head, 0, 2, 1)), retires(1, 2, 3),
		trial.Does(trial.Reads(1, api.Head, 0, 1), trial.Reads(1, api.Slot, 0, 6), trial.Swaps(1, api.Slot, 0, 6, 1<<32)), trial.LettingGo(1, 0),
		trial.Does(trial.Loses(0, api.Head, 0, 2, 1, 1), trial.Reads(0, api.Head, 0, 1), trial.Reads(0, api.Slot, 0, 1<<32), trial.Reads(0, api.Slot, 0, 1<<32), trial.Reads(0, api.Next, 0, 0), trial.Swaps(0, api.Head, 0, 1, 0),
			trial.Reads(0, api.Epoch, 0, 0), trial.Reads(0, api.Limbo, 0, 2), trial.Writes(0, api.Link, 0, 2, 1<<32|2), trial.Swaps(0, api.Limbo, 0, 2, 1), trial.Reads(0, api.Head, 0, 0)), trial.LettingGo(0, 0))
}

// P7.1: a Get that loses the race for a value in its first look goes on with the next slot.
func TestGetLosesValue(t *testing.T) {
	l := [][]api.Op{{trial.Put(5), trial.Put(6), trial.Get()}, {trial.Get()}}
	ran(t, pile(2, 2, 3), l, trial.Drawn(0, 0, 19+5, 1, 7, 0, 20), 19,
		trial.Pinning(0, 0), trial.Does(trial.Reads(0, api.Head, 0, 1), trial.Reads(0, api.Slot, 0, 6)),
		trial.Pinning(1, 0), trial.Does(trial.Reads(1, api.Head, 0, 1), trial.Reads(1, api.Slot, 0, 6), trial.Swaps(1, api.Slot, 0, 6, 1<<32)), trial.LettingGo(1, 0),
		trial.Does(trial.Loses(0, api.Slot, 0, 6, 1<<32, 1<<32), trial.Reads(0, api.Slot, 1, 7), trial.Swaps(0, api.Slot, 1, 7, 1<<32)), trial.LettingGo(0, 0))
}

// P7.1: calls pin themselves by the epoch that is, and a Collect goes by their pins.
func TestPinned(t *testing.T) {
	l := [][]api.Op{{trial.Get()}, {trial.Collect(), trial.Collect()}}
	x := ran(t, pile(1, 2, 2), l, trial.Turns(0, 1, 1, 6, 0, 3, 1, 6, 0, 9), 0,
		trial.Does(trial.Reads(0, api.Epoch, 0, 0)),
		trial.Does(trial.Reads(1, api.Epoch, 0, 0), trial.Reads(1, api.Pin, 0, 0), trial.Reads(1, api.Pin, 1, 0), trial.Swaps(1, api.Epoch, 0, 0, 1), trial.Reads(1, api.Epoch, 0, 1), trial.Reads(1, api.Limbo, 2, 0)),
		trial.Does(trial.Writes(0, api.Pin, 0, 0, 1), trial.Reads(0, api.Epoch, 0, 1), trial.Writes(0, api.Pin, 0, 1, 2)),
		trial.Does(trial.Reads(1, api.Epoch, 0, 1), trial.Reads(1, api.Pin, 0, 2), trial.Reads(1, api.Pin, 1, 0), trial.Swaps(1, api.Epoch, 0, 1, 2), trial.Reads(1, api.Epoch, 0, 2), trial.Reads(1, api.Limbo, 0, 0)),
		trial.Does(trial.Reads(0, api.Epoch, 0, 2), trial.Writes(0, api.Pin, 0, 2, 3), trial.Reads(0, api.Epoch, 0, 2), trial.Reads(0, api.Head, 0, 0), trial.Writes(0, api.Pin, 0, 3, 0)))
	came(t, x,
		api.Call{Thread: 0, Kind: api.Get, Val: trial.Top, From: 0, To: 20, Code: api.Empty},
		api.Call{Thread: 1, Kind: api.Collect, Val: trial.Top, From: 1, To: 6},
		api.Call{Thread: 1, Kind: api.Collect, Val: trial.Top, From: 10, To: 15})
}

// P7.2: the values from 0 to MaxVal are told as they are, those that come with a segment of their own, and others.
func TestValues(t *testing.T) {
	for _, val := range []uint32{0, 1, 1<<31 - 1, 1 << 31, api.MaxVal - 1, api.MaxVal} {
		w := uint64(val) + 1
		x := ran(t, pile(2, 1, 2), [][]api.Op{{trial.Put(val), trial.Put(val), trial.Get(), trial.Get()}}, trial.Drawn(0, 0, 60), 7,
			trial.Does(trial.Writes(0, api.Slot, 0, 0, w), trial.Writes(0, api.Next, 0, 0, 0), trial.Swaps(0, api.Head, 0, 0, 1)), trial.LettingGo(0, 0),
			trial.Pinning(0, 0), trial.Does(trial.Reads(0, api.Head, 0, 1), trial.Reads(0, api.Slot, 0, w), trial.Reads(0, api.Slot, 1, 0), trial.Swaps(0, api.Slot, 1, 0, w)), trial.LettingGo(0, 0),
			trial.Pinning(0, 0), trial.Does(trial.Reads(0, api.Head, 0, 1), trial.Reads(0, api.Slot, 0, w), trial.Swaps(0, api.Slot, 0, w, 1<<32)), trial.LettingGo(0, 0),
			trial.Pinning(0, 0), trial.Does(trial.Reads(0, api.Head, 0, 1), trial.Reads(0, api.Slot, 0, 1<<32), trial.Reads(0, api.Slot, 1, w), trial.Swaps(0, api.Slot, 1, w, 1<<32)), trial.LettingGo(0, 0))
		came(t, x,
			api.Call{Kind: api.Put, Val: val, From: 0, To: 10},
			api.Call{Kind: api.Put, Val: val, From: 11, To: 18},
			api.Call{Kind: api.Get, Val: trial.Top, From: 19, To: 25, Out: val},
			api.Call{Kind: api.Get, Val: trial.Top, From: 26, To: 33, Out: val})
	}
}

// P7.2: calls that aren't over, threads without calls or without turns, picks of none.
func TestNotOver(t *testing.T) {
	l := [][]api.Op{{trial.Put(5), trial.Get()}, nil, {trial.Get()}, {trial.Collect()}}
	x := ran(t, pile(1, 4, 2), l, trial.Picked(2, -1, 0, 4, 1, 0, 2, math.MinInt, math.MaxInt), 0,
		trial.Does(trial.Reads(2, api.Epoch, 0, 0), trial.Reads(0, api.Epoch, 0, 0), trial.Writes(0, api.Pin, 0, 0, 1), trial.Writes(2, api.Pin, 2, 0, 1)))
	came(t, x,
		api.Call{Thread: 2, Kind: api.Get, Val: trial.Top, From: 0, To: -1},
		api.Call{Thread: 0, Kind: api.Put, Val: 5, From: 1, To: -1})
	came(t, ran(t, pile(1, 4, 2), l, nil, 0))
	came(t, ran(t, pile(1, 2, 2), [][]api.Op{nil, {}}, trial.Turns(0, 3, 1, 3), 0))
}

// P7.2: what no layer runs; a config that may be, but is no Stack's; a call of another Kind; a Put of what is no value.
func TestArg(t *testing.T) {
	l := trial.WrongFor(api.Stack)
	for _, o := range []api.Op{trial.Put(5), trial.Get(), trial.Collect()} {
		l = append(l, trial.Wrong(api.Stack, o)...)
	}
	for _, n := range l {
		if x, e := Run(n.Config, n.Calls, n.Picks); e != api.Arg || !trial.Same(x, api.Trace{}) {
			t.Errorf("%v, %d lists, %d picks: %+v %v", n.Config, len(n.Calls), len(n.Picks), x, e)
		}
	}
}

// Rule 3: what is handed in isn't changed, its spare room neither, and answers share nothing.
func TestOwn(t *testing.T) {
	n := trial.Input{Config: pile(1, 2, 3), Calls: [][]api.Op{{trial.Put(5), trial.Put(6), trial.Get()}, {trial.Get(), trial.Get(), trial.Collect()}}, Picks: trial.Turns(0, 2, 1, 3, 0, 17, 1, 30, 0, 9)}
	if s := trial.Meddles(Run, n, expected(n.Config, n.Calls, n.Picks)); s != "" {
		t.Error(s)
	}
}
