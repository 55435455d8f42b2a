package ring

import (
	"math"
	"slices"
	"testing"

	"shunting/api"
	"shunting/trial"
)

// ring is a config.
func ring(size, threads, segments int) api.Config {
	return api.Config{Kind: api.Ring, K: size, T: threads, M: segments}
}

// ran holds a run against its steps from the one of that number on, and answers its trace.
func ran(t *testing.T, c api.Config, l [][]api.Op, picks []api.Pick, from int, parts ...[]api.Step) api.Trace {
	t.Helper()
	x, e := Run(c, l, picks)
	if s := trial.Ran(c, x, from, parts...); e != api.OK || s != "" {
		t.Fatalf("%v, %s: %+v, not %+v", e, s, x, parts)
	}
	return x
}

// came holds the calls of a trace against what was told of them.
func came(t *testing.T, x api.Trace, calls ...api.Call) {
	t.Helper()
	if !slices.Equal(x.Calls, calls) {
		t.Errorf("%+v, not %+v", x.Calls, calls)
	}
}

// P8.1, P8.2 and the chapter's example: of two segments of one slot each both are filled, then it is full; Head goes on when it is spent, but not past Tail.
func TestAlone(t *testing.T) {
	l := [][]api.Op{{trial.Put(5), trial.Put(6), trial.Put(7), trial.Get(), trial.Get(), trial.Get()}}
	x := ran(t, ring(1, 1, 2), l, trial.Turns(0, 30), 0, trial.Does(
		trial.Reads(0, api.Tail, 0, 0), trial.Reads(0, api.Slot, 0, 0), trial.Swaps(0, api.Slot, 0, 0, 6),
		trial.Reads(0, api.Tail, 0, 0), trial.Reads(0, api.Slot, 0, 6), trial.Reads(0, api.Head, 0, 0), trial.Swaps(0, api.Tail, 0, 0, 1),
		trial.Reads(0, api.Tail, 0, 1), trial.Reads(0, api.Slot, 1, 0), trial.Swaps(0, api.Slot, 1, 0, 7),
		trial.Reads(0, api.Tail, 0, 1), trial.Reads(0, api.Slot, 1, 7), trial.Reads(0, api.Head, 0, 0),
		trial.Reads(0, api.Head, 0, 0), trial.Reads(0, api.Slot, 0, 6), trial.Swaps(0, api.Slot, 0, 6, 1<<32),
		trial.Reads(0, api.Head, 0, 0), trial.Reads(0, api.Slot, 0, 1<<32), trial.Reads(0, api.Tail, 0, 1), trial.Swaps(0, api.Head, 0, 0, 1),
		trial.Reads(0, api.Head, 0, 1), trial.Reads(0, api.Slot, 1, 7), trial.Swaps(0, api.Slot, 1, 7, 1<<32),
		trial.Reads(0, api.Head, 0, 1), trial.Reads(0, api.Slot, 1, 1<<32), trial.Reads(0, api.Tail, 0, 1)))
	came(t, x,
		api.Call{Kind: api.Put, Val: 5, From: 0, To: 2},
		api.Call{Kind: api.Put, Val: 6, From: 3, To: 9},
		api.Call{Kind: api.Put, Val: 7, From: 10, To: 12, Code: api.Full},
		api.Call{Kind: api.Get, Val: trial.Top, From: 13, To: 15, Out: 5},
		api.Call{Kind: api.Get, Val: trial.Top, From: 16, To: 22, Out: 6},
		api.Call{Kind: api.Get, Val: trial.Top, From: 23, To: 25, Code: api.Empty})
}

// P8.1: a lap behind the other, what was left of a slot in one is what the next one finds bare.
func TestLaps(t *testing.T) {
	l := [][]api.Op{{trial.Put(5), trial.Get(), trial.Put(6), trial.Get(), trial.Put(7), trial.Get(), trial.Put(8), trial.Get(), trial.Get()}}
	x := ran(t, ring(1, 1, 2), l, trial.Turns(0, 60), 20, trial.Does(
		trial.Reads(0, api.Tail, 0, 1), trial.Reads(0, api.Slot, 1, 1<<32), trial.Reads(0, api.Head, 0, 1), trial.Swaps(0, api.Tail, 0, 1, 2),
		trial.Reads(0, api.Tail, 0, 2), trial.Reads(0, api.Slot, 0, 1<<32), trial.Swaps(0, api.Slot, 0, 1<<32, 1<<32|8),
		trial.Reads(0, api.Head, 0, 1), trial.Reads(0, api.Slot, 1, 1<<32), trial.Reads(0, api.Tail, 0, 2), trial.Swaps(0, api.Head, 0, 1, 2),
		trial.Reads(0, api.Head, 0, 2), trial.Reads(0, api.Slot, 0, 1<<32|8), trial.Swaps(0, api.Slot, 0, 1<<32|8, 2<<32),
		trial.Reads(0, api.Tail, 0, 2), trial.Reads(0, api.Slot, 0, 2<<32), trial.Reads(0, api.Head, 0, 2), trial.Swaps(0, api.Tail, 0, 2, 3),
		trial.Reads(0, api.Tail, 0, 3), trial.Reads(0, api.Slot, 1, 1<<32), trial.Swaps(0, api.Slot, 1, 1<<32, 1<<32|9),
		trial.Reads(0, api.Head, 0, 2), trial.Reads(0, api.Slot, 0, 2<<32), trial.Reads(0, api.Tail, 0, 3), trial.Swaps(0, api.Head, 0, 2, 3),
		trial.Reads(0, api.Head, 0, 3), trial.Reads(0, api.Slot, 1, 1<<32|9), trial.Swaps(0, api.Slot, 1, 1<<32|9, 2<<32),
		trial.Reads(0, api.Head, 0, 3), trial.Reads(0, api.Slot, 1, 2<<32), trial.Reads(0, api.Tail, 0, 3)))
	came(t, x,
		api.Call{Kind: api.Put, Val: 5, From: 0, To: 2},
		api.Call{Kind: api.Get, Val: trial.Top, From: 3, To: 5, Out: 5},
		api.Call{Kind: api.Put, Val: 6, From: 6, To: 12},
		api.Call{Kind: api.Get, Val: trial.Top, From: 13, To: 19, Out: 6},
		api.Call{Kind: api.Put, Val: 7, From: 20, To: 26},
		api.Call{Kind: api.Get, Val: trial.Top, From: 27, To: 33, Out: 7},
		api.Call{Kind: api.Put, Val: 8, From: 34, To: 40},
		api.Call{Kind: api.Get, Val: trial.Top, From: 41, To: 47, Out: 8},
		api.Call{Kind: api.Get, Val: trial.Top, From: 48, To: 50, Code: api.Empty})
}

// P8.1, P8.2: a Put is Full with M times K values, and as long as Head stands, though there are but M less 1 times K any more; when it goes on, there is room again.
func TestFull(t *testing.T) {
	l := [][]api.Op{{trial.Put(1), trial.Put(2), trial.Put(3), trial.Put(4), trial.Put(5), trial.Put(6), trial.Put(7), trial.Get(), trial.Get(), trial.Put(8), trial.Get(), trial.Put(9)}}
	x := ran(t, ring(2, 1, 3), l, trial.Drawn(0, 0, 70), 54, trial.Does(
		trial.Reads(0, api.Tail, 0, 2), trial.Reads(0, api.Slot, 4, 6), trial.Reads(0, api.Slot, 5, 7), trial.Reads(0, api.Head, 0, 1), trial.Swaps(0, api.Tail, 0, 2, 3),
		trial.Reads(0, api.Tail, 0, 3), trial.Reads(0, api.Slot, 0, 1<<32), trial.Swaps(0, api.Slot, 0, 1<<32, 1<<32|10)))
	for i, want := range []struct {
		code api.Code
		out  uint32
	}{{}, {}, {}, {}, {}, {}, {api.Full, 0}, {api.OK, 1}, {api.OK, 2}, {api.Full, 0}, {api.OK, 3}, {}} {
		if call := x.Calls[i]; call.Code != want.code || call.Out != want.out {
			t.Errorf("%d: %+v", i, call)
		}
	}
}

// P8.1: a call's slots begin with the Draw modulo K, of the pick that it begins with, and go round: of a Put, also in the next segment, and of a Get.
func TestDraw(t *testing.T) {
	for _, d := range []struct {
		draw    uint32
		a, b, c int // the slots, in their order
	}{{0, 0, 1, 2}, {4, 1, 2, 0}, {5, 2, 0, 1}, {1<<31 - 1, 1, 2, 0}, {1 << 31, 2, 0, 1}, {1<<32 - 2, 2, 0, 1}, {1<<32 - 1, 0, 1, 2}} {
		picks := trial.Drawn(d.draw+1, 0, 60)
		for _, first := range []int{0, 3, 7, 12, 21, 24} {
			picks[first].Draw = d.draw
		}
		ran(t, ring(3, 1, 2), [][]api.Op{{trial.Put(5), trial.Put(6), trial.Put(7), trial.Put(8), trial.Get(), trial.Get()}}, picks, 0, trial.Does(
			trial.Reads(0, api.Tail, 0, 0), trial.Reads(0, api.Slot, d.a, 0), trial.Swaps(0, api.Slot, d.a, 0, 6),
			trial.Reads(0, api.Tail, 0, 0), trial.Reads(0, api.Slot, d.a, 6), trial.Reads(0, api.Slot, d.b, 0), trial.Swaps(0, api.Slot, d.b, 0, 7),
			trial.Reads(0, api.Tail, 0, 0), trial.Reads(0, api.Slot, d.a, 6), trial.Reads(0, api.Slot, d.b, 7), trial.Reads(0, api.Slot, d.c, 0), trial.Swaps(0, api.Slot, d.c, 0, 8),
			trial.Reads(0, api.Tail, 0, 0), trial.Reads(0, api.Slot, d.a, 6), trial.Reads(0, api.Slot, d.b, 7), trial.Reads(0, api.Slot, d.c, 8), trial.Reads(0, api.Head, 0, 0), trial.Swaps(0, api.Tail, 0, 0, 1),
			trial.Reads(0, api.Tail, 0, 1), trial.Reads(0, api.Slot, 3+d.a, 0), trial.Swaps(0, api.Slot, 3+d.a, 0, 9),
			trial.Reads(0, api.Head, 0, 0), trial.Reads(0, api.Slot, d.a, 6), trial.Swaps(0, api.Slot, d.a, 6, 1<<32),
			trial.Reads(0, api.Head, 0, 0), trial.Reads(0, api.Slot, d.a, 1<<32), trial.Reads(0, api.Slot, d.b, 7), trial.Swaps(0, api.Slot, d.b, 7, 1<<32)))
	}
}

// P8.1: a Put that loses the race for a slot goes on with the next one, behind the last one to Head.
func TestPutLosesSlot(t *testing.T) {
	l := [][]api.Op{{trial.Put(5)}, {trial.Put(6)}}
	picks := trial.Drawn(0, 0, 2, 1, 3, 0, 9)
	first := trial.Does(
		trial.Reads(0, api.Tail, 0, 0), trial.Reads(0, api.Slot, 0, 0),
		trial.Reads(1, api.Tail, 0, 0), trial.Reads(1, api.Slot, 0, 0), trial.Swaps(1, api.Slot, 0, 0, 7),
		trial.Loses(0, api.Slot, 0, 0, 6, 7))
	ran(t, ring(2, 2, 2), l, picks, 0, first, trial.Does(trial.Reads(0, api.Slot, 1, 0), trial.Swaps(0, api.Slot, 1, 0, 6)))
	ran(t, ring(1, 2, 2), l, picks, 0, first, trial.Does(
		trial.Reads(0, api.Head, 0, 0), trial.Swaps(0, api.Tail, 0, 0, 1), trial.Reads(0, api.Tail, 0, 1), trial.Reads(0, api.Slot, 1, 0), trial.Swaps(0, api.Slot, 1, 0, 6)))
}

// P8.1: a Put that loses the race for Tail goes on from what Tail is then.
func TestPutLosesTail(t *testing.T) {
	l := [][]api.Op{{trial.Put(4), trial.Put(5)}, {trial.Put(6), trial.Put(7)}}
	x := ran(t, ring(1, 2, 4), l, trial.Turns(0, 6, 1, 14, 0, 9), 3, trial.Does(
		trial.Reads(0, api.Tail, 0, 0), trial.Reads(0, api.Slot, 0, 5), trial.Reads(0, api.Head, 0, 0),
		trial.Reads(1, api.Tail, 0, 0), trial.Reads(1, api.Slot, 0, 5), trial.Reads(1, api.Head, 0, 0), trial.Swaps(1, api.Tail, 0, 0, 1),
		trial.Reads(1, api.Tail, 0, 1), trial.Reads(1, api.Slot, 1, 0), trial.Swaps(1, api.Slot, 1, 0, 7),
		trial.Reads(1, api.Tail, 0, 1), trial.Reads(1, api.Slot, 1, 7), trial.Reads(1, api.Head, 0, 0), trial.Swaps(1, api.Tail, 0, 1, 2),
		trial.Reads(1, api.Tail, 0, 2), trial.Reads(1, api.Slot, 2, 0), trial.Swaps(1, api.Slot, 2, 0, 8),
		trial.Loses(0, api.Tail, 0, 0, 1, 2),
		trial.Reads(0, api.Tail, 0, 2), trial.Reads(0, api.Slot, 2, 8), trial.Reads(0, api.Head, 0, 0), trial.Swaps(0, api.Tail, 0, 2, 3),
		trial.Reads(0, api.Tail, 0, 3), trial.Reads(0, api.Slot, 3, 0), trial.Swaps(0, api.Slot, 3, 0, 6)))
	came(t, x,
		api.Call{Thread: 0, Kind: api.Put, Val: 4, From: 0, To: 2},
		api.Call{Thread: 0, Kind: api.Put, Val: 5, From: 3, To: 27},
		api.Call{Thread: 1, Kind: api.Put, Val: 6, From: 6, To: 12},
		api.Call{Thread: 1, Kind: api.Put, Val: 7, From: 13, To: 19})
}

// P8.1: a Put that Head has gone past meanwhile isn't Full; it goes on from what Tail is then, and may be Full there.
func TestPutBehindHead(t *testing.T) {
	l := [][]api.Op{{trial.Put(4), trial.Put(5)}, {trial.Put(6), trial.Get(), trial.Get(), trial.Put(7)}}
	stale := trial.Does(trial.Reads(0, api.Tail, 0, 0), trial.Reads(0, api.Slot, 0, 5))
	onward := trial.Does(
		trial.Reads(1, api.Tail, 0, 0), trial.Reads(1, api.Slot, 0, 5), trial.Reads(1, api.Head, 0, 0), trial.Swaps(1, api.Tail, 0, 0, 1),
		trial.Reads(1, api.Tail, 0, 1), trial.Reads(1, api.Slot, 1, 0), trial.Swaps(1, api.Slot, 1, 0, 7),
		trial.Reads(1, api.Head, 0, 0), trial.Reads(1, api.Slot, 0, 5), trial.Swaps(1, api.Slot, 0, 5, 1<<32),
		trial.Reads(1, api.Head, 0, 0), trial.Reads(1, api.Slot, 0, 1<<32), trial.Reads(1, api.Tail, 0, 1), trial.Swaps(1, api.Head, 0, 0, 1),
		trial.Reads(1, api.Head, 0, 1), trial.Reads(1, api.Slot, 1, 7), trial.Swaps(1, api.Slot, 1, 7, 1<<32))
	ran(t, ring(1, 2, 2), l, trial.Turns(0, 5, 1, 17, 0, 20), 3, stale, onward, trial.Does(
		trial.Reads(0, api.Head, 0, 1), trial.Loses(0, api.Tail, 0, 0, 1, 1),
		trial.Reads(0, api.Tail, 0, 1), trial.Reads(0, api.Slot, 1, 1<<32), trial.Reads(0, api.Head, 0, 1), trial.Swaps(0, api.Tail, 0, 1, 2),
		trial.Reads(0, api.Tail, 0, 2), trial.Reads(0, api.Slot, 0, 1<<32), trial.Swaps(0, api.Slot, 0, 1<<32, 1<<32|6)))
	ran(t, ring(1, 2, 2), l, trial.Turns(0, 5, 1, 24, 0, 20), 3, stale, onward, trial.Does(
		trial.Reads(1, api.Tail, 0, 1), trial.Reads(1, api.Slot, 1, 1<<32), trial.Reads(1, api.Head, 0, 1), trial.Swaps(1, api.Tail, 0, 1, 2),
		trial.Reads(1, api.Tail, 0, 2), trial.Reads(1, api.Slot, 0, 1<<32), trial.Swaps(1, api.Slot, 0, 1<<32, 1<<32|8),
		trial.Reads(0, api.Head, 0, 1), trial.Loses(0, api.Tail, 0, 0, 1, 2),
		trial.Reads(0, api.Tail, 0, 2), trial.Reads(0, api.Slot, 0, 1<<32|8), trial.Reads(0, api.Head, 0, 1)))
}

// P8.1, P8.2: a Get that sees bare slots looks twice, in the same order, ahead of Empty, without a look at Tail; also if others are spent.
func TestGetEmpty(t *testing.T) {
	x := ran(t, ring(2, 1, 2), [][]api.Op{{trial.Get(), trial.Put(5), trial.Get(), trial.Get()}}, trial.Drawn(3, 0, 40), 0, trial.Does(
		trial.Reads(0, api.Head, 0, 0), trial.Reads(0, api.Slot, 1, 0), trial.Reads(0, api.Slot, 0, 0), trial.Reads(0, api.Slot, 1, 0), trial.Reads(0, api.Slot, 0, 0),
		trial.Reads(0, api.Tail, 0, 0), trial.Reads(0, api.Slot, 1, 0), trial.Swaps(0, api.Slot, 1, 0, 6),
		trial.Reads(0, api.Head, 0, 0), trial.Reads(0, api.Slot, 1, 6), trial.Swaps(0, api.Slot, 1, 6, 1<<32),
		trial.Reads(0, api.Head, 0, 0), trial.Reads(0, api.Slot, 1, 1<<32), trial.Reads(0, api.Slot, 0, 0), trial.Reads(0, api.Slot, 1, 1<<32), trial.Reads(0, api.Slot, 0, 0)))
	came(t, x,
		api.Call{Kind: api.Get, Val: trial.Top, From: 0, To: 4, Code: api.Empty},
		api.Call{Kind: api.Put, Val: 5, From: 5, To: 7},
		api.Call{Kind: api.Get, Val: trial.Top, From: 8, To: 10, Out: 5},
		api.Call{Kind: api.Get, Val: trial.Top, From: 11, To: 15, Code: api.Empty})
}

// looked are the steps of the thread 0 that looks at two bare slots once.
func looked() []api.Step {
	return trial.Does(trial.Reads(0, api.Head, 0, 0), trial.Reads(0, api.Slot, 0, 0), trial.Reads(0, api.Slot, 1, 0))
}

// put9 and get9 are the steps of the thread 1 that puts 9 into the slot 0, and gets it.
func put9() []api.Step {
	return trial.Does(trial.Reads(1, api.Tail, 0, 0), trial.Reads(1, api.Slot, 0, 0), trial.Swaps(1, api.Slot, 0, 0, 10))
}

func get9() []api.Step {
	return trial.Does(trial.Reads(1, api.Head, 0, 0), trial.Reads(1, api.Slot, 0, 10), trial.Swaps(1, api.Slot, 0, 10, 1<<32))
}

// anew are the steps of the thread 0 that looks at a spent slot and a bare one twice, from Head on.
func anew() []api.Step {
	return trial.Does(trial.Reads(0, api.Head, 0, 0), trial.Reads(0, api.Slot, 0, 1<<32), trial.Reads(0, api.Slot, 1, 0), trial.Reads(0, api.Slot, 0, 1<<32), trial.Reads(0, api.Slot, 1, 0))
}

// P8.1: what a Get's second look finds: a value, one that another one gets first, a slot that was put and got meanwhile; and a first look that loses a race remembers what was there last.
func TestGetLooksTwice(t *testing.T) {
	c, l := ring(2, 2, 2), [][]api.Op{{trial.Get()}, {trial.Put(9), trial.Get()}}
	ran(t, c, l, trial.Drawn(0, 0, 3, 1, 3, 0, 9), 0,
		looked(), put9(), trial.Does(trial.Reads(0, api.Slot, 0, 10), trial.Swaps(0, api.Slot, 0, 10, 1<<32)))
	ran(t, c, l, trial.Drawn(0, 0, 3, 1, 3, 0, 1, 1, 3, 0, 20), 0,
		looked(), put9(), trial.Does(trial.Reads(0, api.Slot, 0, 10)), get9(), trial.Does(trial.Loses(0, api.Slot, 0, 10, 1<<32, 1<<32)), anew())
	ran(t, c, l, trial.Drawn(0, 0, 3, 1, 6, 0, 20), 0,
		looked(), put9(), get9(), trial.Does(trial.Reads(0, api.Slot, 0, 1<<32)), anew())
	ran(t, c, l, trial.Drawn(0, 1, 3, 0, 2, 1, 3, 0, 20), 0,
		put9(), trial.Does(trial.Reads(0, api.Head, 0, 0), trial.Reads(0, api.Slot, 0, 10)), get9(),
		trial.Does(trial.Loses(0, api.Slot, 0, 10, 1<<32, 1<<32), trial.Reads(0, api.Slot, 1, 0), trial.Reads(0, api.Slot, 0, 1<<32), trial.Reads(0, api.Slot, 1, 0)))
}

// P8.1: a second look that finds the last slot's value gets it, having found the others as they were.
func TestGetLooksTwiceLast(t *testing.T) {
	ran(t, ring(2, 2, 2), [][]api.Op{{trial.Get()}, {trial.Put(9)}}, append(trial.Drawn(1, 0, 3), trial.Drawn(0, 1, 3, 0, 9)...), 0,
		trial.Does(trial.Reads(0, api.Head, 0, 0), trial.Reads(0, api.Slot, 1, 0), trial.Reads(0, api.Slot, 0, 0)),
		put9(), trial.Does(trial.Reads(0, api.Slot, 1, 0), trial.Reads(0, api.Slot, 0, 10), trial.Swaps(0, api.Slot, 0, 10, 1<<32)))
}

// P8.1: a Get that loses the race for a value in its first look goes on with the next slot; when that was the last one, the segment is spent.
func TestGetLosesValue(t *testing.T) {
	l := [][]api.Op{{trial.Get()}, {trial.Put(9), trial.Put(8), trial.Get()}}
	got := trial.Does(trial.Loses(0, api.Slot, 0, 10, 1<<32, 1<<32), trial.Reads(0, api.Slot, 1, 9), trial.Swaps(0, api.Slot, 1, 9, 1<<32))
	ran(t, ring(2, 2, 2), l, trial.Drawn(0, 1, 7, 0, 2, 1, 3, 0, 9), 7,
		trial.Does(trial.Reads(0, api.Head, 0, 0), trial.Reads(0, api.Slot, 0, 10)), get9(), got)
	l[1] = []api.Op{trial.Put(9), trial.Get()}
	ran(t, ring(1, 2, 2), l, trial.Drawn(0, 1, 3, 0, 2, 1, 3, 0, 9), 3,
		trial.Does(trial.Reads(0, api.Head, 0, 0), trial.Reads(0, api.Slot, 0, 10)), get9(),
		trial.Does(trial.Loses(0, api.Slot, 0, 10, 1<<32, 1<<32), trial.Reads(0, api.Tail, 0, 0)))
}

// P8.1: a Get that loses the race for Head goes on from what Head is then.
func TestGetLosesHead(t *testing.T) {
	l := [][]api.Op{{trial.Put(5), trial.Put(6), trial.Put(7), trial.Get(), trial.Get()}, {trial.Get()}}
	x := ran(t, ring(1, 2, 3), l, trial.Turns(0, 17+3+3, 1, 7, 0, 20), 20, trial.Does(
		trial.Reads(0, api.Head, 0, 0), trial.Reads(0, api.Slot, 0, 1<<32), trial.Reads(0, api.Tail, 0, 2),
		trial.Reads(1, api.Head, 0, 0), trial.Reads(1, api.Slot, 0, 1<<32), trial.Reads(1, api.Tail, 0, 2), trial.Swaps(1, api.Head, 0, 0, 1),
		trial.Reads(1, api.Head, 0, 1), trial.Reads(1, api.Slot, 1, 7), trial.Swaps(1, api.Slot, 1, 7, 1<<32),
		trial.Loses(0, api.Head, 0, 0, 1, 1),
		trial.Reads(0, api.Head, 0, 1), trial.Reads(0, api.Slot, 1, 1<<32), trial.Reads(0, api.Tail, 0, 2), trial.Swaps(0, api.Head, 0, 1, 2),
		trial.Reads(0, api.Head, 0, 2), trial.Reads(0, api.Slot, 2, 8), trial.Swaps(0, api.Slot, 2, 8, 1<<32)))
	came(t, x,
		api.Call{Thread: 0, Kind: api.Put, Val: 5, From: 0, To: 2},
		api.Call{Thread: 0, Kind: api.Put, Val: 6, From: 3, To: 9},
		api.Call{Thread: 0, Kind: api.Put, Val: 7, From: 10, To: 16},
		api.Call{Thread: 0, Kind: api.Get, Val: trial.Top, From: 17, To: 19, Out: 5},
		api.Call{Thread: 0, Kind: api.Get, Val: trial.Top, From: 20, To: 37, Out: 7},
		api.Call{Thread: 1, Kind: api.Get, Val: trial.Top, From: 23, To: 29, Out: 6})
}

// P8.1: a Get that Head has gone past meanwhile doesn't take what is there of a later lap.
func TestGetBehindHead(t *testing.T) {
	l := [][]api.Op{{trial.Put(5), trial.Get(), trial.Put(6), trial.Get(), trial.Put(7)}, {trial.Get()}}
	ran(t, ring(1, 2, 2), l, trial.Turns(0, 3, 1, 1, 0, 24, 1, 20), 3,
		trial.Does(trial.Reads(1, api.Head, 0, 0)),
		trial.Does(
			trial.Reads(0, api.Head, 0, 0), trial.Reads(0, api.Slot, 0, 6), trial.Swaps(0, api.Slot, 0, 6, 1<<32),
			trial.Reads(0, api.Tail, 0, 0), trial.Reads(0, api.Slot, 0, 1<<32), trial.Reads(0, api.Head, 0, 0), trial.Swaps(0, api.Tail, 0, 0, 1),
			trial.Reads(0, api.Tail, 0, 1), trial.Reads(0, api.Slot, 1, 0), trial.Swaps(0, api.Slot, 1, 0, 7),
			trial.Reads(0, api.Head, 0, 0), trial.Reads(0, api.Slot, 0, 1<<32), trial.Reads(0, api.Tail, 0, 1), trial.Swaps(0, api.Head, 0, 0, 1),
			trial.Reads(0, api.Head, 0, 1), trial.Reads(0, api.Slot, 1, 7), trial.Swaps(0, api.Slot, 1, 7, 1<<32),
			trial.Reads(0, api.Tail, 0, 1), trial.Reads(0, api.Slot, 1, 1<<32), trial.Reads(0, api.Head, 0, 1), trial.Swaps(0, api.Tail, 0, 1, 2),
			trial.Reads(0, api.Tail, 0, 2), trial.Reads(0, api.Slot, 0, 1<<32), trial.Swaps(0, api.Slot, 0, 1<<32, 1<<32|8)),
		trial.Does(trial.Reads(1, api.Slot, 0, 1<<32|8), trial.Reads(1, api.Tail, 0, 2), trial.Loses(1, api.Head, 0, 0, 1, 1),
			trial.Reads(1, api.Head, 0, 1), trial.Reads(1, api.Slot, 1, 1<<32), trial.Reads(1, api.Tail, 0, 2), trial.Swaps(1, api.Head, 0, 1, 2),
			trial.Reads(1, api.Head, 0, 2), trial.Reads(1, api.Slot, 0, 1<<32|8), trial.Swaps(1, api.Slot, 0, 1<<32|8, 2<<32)))
}

// P8.1, P8.2: a Collect goes as layer 5 tells, all threads' pins being looked at, though no Put or Get pins one.
func TestCollect(t *testing.T) {
	l := [][]api.Op{{trial.Put(5)}, {trial.Collect(), trial.Collect()}}
	x := ran(t, ring(1, 2, 2), l, trial.Turns(0, 1, 1, 6, 0, 2, 1, 9), 0,
		trial.Does(trial.Reads(0, api.Tail, 0, 0)),
		trial.Does(trial.Reads(1, api.Epoch, 0, 0), trial.Reads(1, api.Pin, 0, 0), trial.Reads(1, api.Pin, 1, 0), trial.Swaps(1, api.Epoch, 0, 0, 1), trial.Reads(1, api.Epoch, 0, 1), trial.Reads(1, api.Limbo, 2, 0)),
		trial.Does(trial.Reads(0, api.Slot, 0, 0), trial.Swaps(0, api.Slot, 0, 0, 6)),
		trial.Does(trial.Reads(1, api.Epoch, 0, 1), trial.Reads(1, api.Pin, 0, 0), trial.Reads(1, api.Pin, 1, 0), trial.Swaps(1, api.Epoch, 0, 1, 2), trial.Reads(1, api.Epoch, 0, 2), trial.Reads(1, api.Limbo, 0, 0)))
	came(t, x,
		api.Call{Thread: 0, Kind: api.Put, Val: 5, From: 0, To: 8},
		api.Call{Thread: 1, Kind: api.Collect, Val: trial.Top, From: 1, To: 6},
		api.Call{Thread: 1, Kind: api.Collect, Val: trial.Top, From: 9, To: 14})
}

// P8.2: the values from 0 to MaxVal are told as they are, by the first look and by the second one.
func TestValues(t *testing.T) {
	for _, val := range []uint32{0, 1, 1<<31 - 1, 1 << 31, api.MaxVal - 1, api.MaxVal} {
		w := uint64(val) + 1
		x := ran(t, ring(1, 2, 2), [][]api.Op{{trial.Put(val), trial.Get(), trial.Put(val)}, {trial.Get()}}, trial.Turns(0, 10, 1, 6, 0, 3, 1, 9), 0,
			trial.Does(trial.Reads(0, api.Tail, 0, 0), trial.Reads(0, api.Slot, 0, 0), trial.Swaps(0, api.Slot, 0, 0, w)),
			trial.Does(trial.Reads(0, api.Head, 0, 0), trial.Reads(0, api.Slot, 0, w), trial.Swaps(0, api.Slot, 0, w, 1<<32)),
			trial.Does(trial.Reads(0, api.Tail, 0, 0), trial.Reads(0, api.Slot, 0, 1<<32), trial.Reads(0, api.Head, 0, 0), trial.Swaps(0, api.Tail, 0, 0, 1)),
			trial.Does(trial.Reads(1, api.Head, 0, 0), trial.Reads(1, api.Slot, 0, 1<<32), trial.Reads(1, api.Tail, 0, 1), trial.Swaps(1, api.Head, 0, 0, 1), trial.Reads(1, api.Head, 0, 1), trial.Reads(1, api.Slot, 1, 0)),
			trial.Does(trial.Reads(0, api.Tail, 0, 1), trial.Reads(0, api.Slot, 1, 0), trial.Swaps(0, api.Slot, 1, 0, w)),
			trial.Does(trial.Reads(1, api.Slot, 1, w), trial.Swaps(1, api.Slot, 1, w, 1<<32)))
		came(t, x,
			api.Call{Thread: 0, Kind: api.Put, Val: val, From: 0, To: 2},
			api.Call{Thread: 0, Kind: api.Get, Val: trial.Top, From: 3, To: 5, Out: val},
			api.Call{Thread: 0, Kind: api.Put, Val: val, From: 6, To: 18},
			api.Call{Thread: 1, Kind: api.Get, Val: trial.Top, From: 10, To: 20, Out: val})
	}
}

// P8.2: calls that aren't over, threads without calls or without turns, picks of none.
func TestNotOver(t *testing.T) {
	l := [][]api.Op{{trial.Put(5), trial.Get()}, nil, {trial.Get()}, {trial.Collect()}}
	x := ran(t, ring(1, 4, 2), l, trial.Picked(2, -1, 0, 4, 1, 0, 2, math.MinInt, math.MaxInt), 0,
		trial.Does(trial.Reads(2, api.Head, 0, 0), trial.Reads(0, api.Tail, 0, 0), trial.Reads(0, api.Slot, 0, 0), trial.Reads(2, api.Slot, 0, 0)))
	came(t, x,
		api.Call{Thread: 2, Kind: api.Get, Val: trial.Top, From: 0, To: -1},
		api.Call{Thread: 0, Kind: api.Put, Val: 5, From: 1, To: -1})
	came(t, ran(t, ring(1, 4, 2), l, nil, 0))
	came(t, ran(t, ring(1, 2, 2), [][]api.Op{nil, {}}, trial.Turns(0, 3, 1, 3), 0))
}

// P8.2: what no layer runs; a config that may be, but is no Ring's; a call of another Kind; a Put of what is no value.
func TestArg(t *testing.T) {
	l := trial.WrongFor(api.Ring)
	for _, o := range []api.Op{trial.Put(5), trial.Get(), trial.Collect()} {
		l = append(l, trial.Wrong(api.Ring, o)...)
	}
	for _, n := range l {
		if x, e := Run(n.Config, n.Calls, n.Picks); e != api.Arg || !trial.Same(x, api.Trace{}) {
			t.Errorf("%v, %d lists, %d picks: %+v %v", n.Config, len(n.Calls), len(n.Picks), x, e)
		}
	}
}

// Rule 3: what is handed in isn't changed, its spare room neither, and answers share nothing.
func TestOwn(t *testing.T) {
	n := trial.Input{Config: ring(1, 2, 2), Calls: [][]api.Op{{trial.Put(5), trial.Put(6), trial.Get()}, {trial.Get(), trial.Get(), trial.Collect()}}, Picks: trial.Turns(0, 2, 1, 3, 0, 17, 1, 30, 0, 9)}
	if s := trial.Meddles(Run, n, expected(n.Config, n.Calls, n.Picks)); s != "" {
		t.Error(s)
	}
}
