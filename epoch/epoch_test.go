package epoch

import (
	"math"
	"slices"
	"testing"

	"shunting/api"
	"shunting/store"
	"shunting/trial"
)

// The calls; just a Retire's Val has a say.
func hold() api.Op { return api.Op{Kind: api.Hold, Val: 7} }

func drop() api.Op { return api.Op{Kind: api.Drop, Val: 8} }

func retire(val uint32) api.Op { return api.Op{Kind: api.Retire, Val: val} }

func collect() api.Op { return api.Op{Kind: api.Collect, Val: 9} }

// ring is a config whose segments are all out at first: none is free.
func ring(threads, segments int) api.Config {
	return api.Config{Kind: api.Ring, K: 1, T: threads, M: segments}
}

// ran holds a run against its steps from the one of that number on, and answers its trace; the words at the end must be those behind all steps.
func ran(t *testing.T, c api.Config, l [][]api.Op, picks []api.Pick, from int, steps ...api.Step) api.Trace {
	t.Helper()
	x, e := Run(c, l, picks)
	if e != api.OK || len(x.Steps) < from {
		t.Fatalf("%d steps, %v", len(x.Steps), e)
	}
	if !slices.Equal(x.Steps[from:], steps) {
		t.Errorf("from %d on: %+v, not %+v", from, x.Steps[from:], steps)
	}
	if end, e := store.Replay(c, x.Steps); e != api.OK || !trial.SameMem(x.End, end) {
		t.Errorf("the words at the end: %+v, not %+v", x.End, end)
	}
	return x
}

// came holds the calls of a trace against what was told of them.
func came(t *testing.T, x api.Trace, calls ...api.Call) {
	t.Helper()
	if !slices.Equal(x.Calls, calls) {
		t.Errorf("%+v, not %+v", x.Calls, calls)
	}
}

// P5.1, P5.2 and the chapter's example: a segment that is retired is free behind three times Collect.
func TestAlone(t *testing.T) {
	l := [][]api.Op{{hold(), retire(1), drop(), collect(), collect(), collect()}}
	x := ran(t, ring(1, 2), l, trial.Turns(0, 40), 0,
		trial.Reads(0, api.Epoch, 0, 0), trial.Writes(0, api.Pin, 0, 0, 1), trial.Reads(0, api.Epoch, 0, 0),
		trial.Reads(0, api.Epoch, 0, 0), trial.Reads(0, api.Limbo, 0, 0), trial.Writes(0, api.Link, 1, 0, 1<<32), trial.Swaps(0, api.Limbo, 0, 0, 2),
		trial.Writes(0, api.Pin, 0, 1, 0),
		trial.Reads(0, api.Epoch, 0, 0), trial.Reads(0, api.Pin, 0, 0), trial.Swaps(0, api.Epoch, 0, 0, 1), trial.Reads(0, api.Epoch, 0, 1), trial.Reads(0, api.Limbo, 2, 0),
		trial.Reads(0, api.Epoch, 0, 1), trial.Reads(0, api.Pin, 0, 0), trial.Swaps(0, api.Epoch, 0, 1, 2), trial.Reads(0, api.Epoch, 0, 2), trial.Reads(0, api.Limbo, 0, 2), trial.Swaps(0, api.Limbo, 0, 2, 0),
		trial.Reads(0, api.Link, 1, 1<<32), trial.Reads(0, api.Free, 0, 0), trial.Writes(0, api.Link, 1, 1<<32, 1<<32), trial.Swaps(0, api.Free, 0, 0, 1<<32|2),
		trial.Reads(0, api.Epoch, 0, 2), trial.Reads(0, api.Pin, 0, 0), trial.Swaps(0, api.Epoch, 0, 2, 3), trial.Reads(0, api.Epoch, 0, 3), trial.Reads(0, api.Limbo, 1, 0))
	came(t, x,
		api.Call{Kind: api.Hold, Val: 7, From: 0, To: 2},
		api.Call{Kind: api.Retire, Val: 1, From: 3, To: 6},
		api.Call{Kind: api.Drop, Val: 8, From: 7, To: 7},
		api.Call{Kind: api.Collect, Val: 9, From: 8, To: 12},
		api.Call{Kind: api.Collect, Val: 9, From: 13, To: 22},
		api.Call{Kind: api.Collect, Val: 9, From: 23, To: 27})
}

// P5.1: a thread pins itself anew, each time that Epoch went on meanwhile, by what it read last.
func TestHoldAgain(t *testing.T) {
	l := [][]api.Op{{hold()}, {collect(), collect()}}
	x := ran(t, ring(2, 2), l, trial.Turns(0, 1, 1, 6, 0, 3, 1, 6, 0, 9), 0,
		trial.Reads(0, api.Epoch, 0, 0),
		trial.Reads(1, api.Epoch, 0, 0), trial.Reads(1, api.Pin, 0, 0), trial.Reads(1, api.Pin, 1, 0), trial.Swaps(1, api.Epoch, 0, 0, 1), trial.Reads(1, api.Epoch, 0, 1), trial.Reads(1, api.Limbo, 2, 0),
		trial.Writes(0, api.Pin, 0, 0, 1), trial.Reads(0, api.Epoch, 0, 1), trial.Writes(0, api.Pin, 0, 1, 2),
		trial.Reads(1, api.Epoch, 0, 1), trial.Reads(1, api.Pin, 0, 2), trial.Reads(1, api.Pin, 1, 0), trial.Swaps(1, api.Epoch, 0, 1, 2), trial.Reads(1, api.Epoch, 0, 2), trial.Reads(1, api.Limbo, 0, 0),
		trial.Reads(0, api.Epoch, 0, 2), trial.Writes(0, api.Pin, 0, 2, 3), trial.Reads(0, api.Epoch, 0, 2))
	came(t, x,
		api.Call{Thread: 0, Kind: api.Hold, Val: 7, From: 0, To: 18},
		api.Call{Thread: 1, Kind: api.Collect, Val: 9, From: 1, To: 6},
		api.Call{Thread: 1, Kind: api.Collect, Val: 9, From: 10, To: 15})
}

// P5.1: who is pinned pins itself as anybody does; who isn't lets go likewise; a thread's pin is its own.
func TestHoldTwice(t *testing.T) {
	l := [][]api.Op{nil, {drop(), hold(), hold(), drop(), drop()}, {hold()}}
	ran(t, ring(3, 2), l, trial.Turns(1, 1, 2, 9, 1, 20), 0,
		trial.Writes(1, api.Pin, 1, 0, 0),
		trial.Reads(2, api.Epoch, 0, 0), trial.Writes(2, api.Pin, 2, 0, 1), trial.Reads(2, api.Epoch, 0, 0),
		trial.Reads(1, api.Epoch, 0, 0), trial.Writes(1, api.Pin, 1, 0, 1), trial.Reads(1, api.Epoch, 0, 0),
		trial.Reads(1, api.Epoch, 0, 0), trial.Writes(1, api.Pin, 1, 1, 1), trial.Reads(1, api.Epoch, 0, 0),
		trial.Writes(1, api.Pin, 1, 1, 0), trial.Writes(1, api.Pin, 1, 0, 0))
}

// P5.1: in one epoch segments are put one ahead of the other; one that is retired once more leads to itself.
func TestRetireOnto(t *testing.T) {
	l := [][]api.Op{{retire(1), retire(0), retire(0)}}
	x := ran(t, ring(1, 3), l, trial.Turns(0, 20), 0,
		trial.Reads(0, api.Epoch, 0, 0), trial.Reads(0, api.Limbo, 0, 0), trial.Writes(0, api.Link, 1, 0, 1<<32), trial.Swaps(0, api.Limbo, 0, 0, 2),
		trial.Reads(0, api.Epoch, 0, 0), trial.Reads(0, api.Limbo, 0, 2), trial.Writes(0, api.Link, 0, 0, 1<<32|2), trial.Swaps(0, api.Limbo, 0, 2, 1),
		trial.Reads(0, api.Epoch, 0, 0), trial.Reads(0, api.Limbo, 0, 1), trial.Writes(0, api.Link, 0, 1<<32|2, 1<<32|1), trial.Swaps(0, api.Limbo, 0, 1, 1))
	came(t, x,
		api.Call{Kind: api.Retire, Val: 1, From: 0, To: 3},
		api.Call{Kind: api.Retire, Val: 0, From: 4, To: 7},
		api.Call{Kind: api.Retire, Val: 0, From: 8, To: 11})
}

// P5.1: a Retire that loses the race for limbo reads that list again, Epoch not, and writes the link anew.
func TestRetireLoses(t *testing.T) {
	l := [][]api.Op{{retire(0)}, {retire(1), retire(2)}}
	ran(t, ring(2, 3), l, trial.Turns(0, 3, 1, 4, 0, 2, 1, 4, 0, 9), 0,
		trial.Reads(0, api.Epoch, 0, 0), trial.Reads(0, api.Limbo, 0, 0), trial.Writes(0, api.Link, 0, 0, 1<<32),
		trial.Reads(1, api.Epoch, 0, 0), trial.Reads(1, api.Limbo, 0, 0), trial.Writes(1, api.Link, 1, 0, 1<<32), trial.Swaps(1, api.Limbo, 0, 0, 2),
		trial.Loses(0, api.Limbo, 0, 0, 1, 2), trial.Reads(0, api.Limbo, 0, 2),
		trial.Reads(1, api.Epoch, 0, 0), trial.Reads(1, api.Limbo, 0, 2), trial.Writes(1, api.Link, 2, 0, 1<<32|2), trial.Swaps(1, api.Limbo, 0, 2, 3),
		trial.Writes(0, api.Link, 0, 1<<32, 1<<32|2), trial.Loses(0, api.Limbo, 0, 2, 1, 3),
		trial.Reads(0, api.Limbo, 0, 3), trial.Writes(0, api.Link, 0, 1<<32|2, 1<<32|3), trial.Swaps(0, api.Limbo, 0, 3, 1))
}

// P5.1: what a list of limbo has of another epoch is freed, ahead of what is put there. (The first Retire puts it there in the epoch 3, by the epoch 0 that it read.)
func TestRetireOld(t *testing.T) {
	l := [][]api.Op{{retire(1), retire(2)}, {collect(), collect(), collect()}}
	x := ran(t, ring(2, 3), l, trial.Turns(0, 1, 1, 18, 0, 20), 19,
		trial.Reads(0, api.Limbo, 0, 0), trial.Writes(0, api.Link, 1, 0, 1<<32), trial.Swaps(0, api.Limbo, 0, 0, 2),
		trial.Reads(0, api.Epoch, 0, 3), trial.Reads(0, api.Limbo, 0, 2), trial.Swaps(0, api.Limbo, 0, 2, 0),
		trial.Reads(0, api.Link, 1, 1<<32), trial.Reads(0, api.Free, 0, 0), trial.Writes(0, api.Link, 1, 1<<32, 1<<32), trial.Swaps(0, api.Free, 0, 0, 1<<32|2),
		trial.Reads(0, api.Limbo, 0, 0), trial.Writes(0, api.Link, 2, 0, 1<<32), trial.Swaps(0, api.Limbo, 0, 0, 3<<32|3))
	came(t, x,
		api.Call{Thread: 0, Kind: api.Retire, Val: 1, From: 0, To: 21},
		api.Call{Thread: 1, Kind: api.Collect, Val: 9, From: 1, To: 6},
		api.Call{Thread: 1, Kind: api.Collect, Val: 9, From: 7, To: 12},
		api.Call{Thread: 1, Kind: api.Collect, Val: 9, From: 13, To: 18},
		api.Call{Thread: 0, Kind: api.Retire, Val: 2, From: 22, To: 31})
}

// P5.1: pins are looked at from the first one on, up to one of another epoch; then limbo is looked at all the same.
func TestCollectPinned(t *testing.T) {
	l := [][]api.Op{{hold()}, {hold()}, {hold()}, {collect(), collect()}}
	ran(t, ring(4, 2), l, trial.Turns(1, 3, 3, 8, 0, 3, 2, 3, 3, 9), 3,
		trial.Reads(3, api.Epoch, 0, 0), trial.Reads(3, api.Pin, 0, 0), trial.Reads(3, api.Pin, 1, 1), trial.Reads(3, api.Pin, 2, 0), trial.Reads(3, api.Pin, 3, 0),
		trial.Swaps(3, api.Epoch, 0, 0, 1), trial.Reads(3, api.Epoch, 0, 1), trial.Reads(3, api.Limbo, 2, 0),
		trial.Reads(0, api.Epoch, 0, 1), trial.Writes(0, api.Pin, 0, 0, 2), trial.Reads(0, api.Epoch, 0, 1),
		trial.Reads(2, api.Epoch, 0, 1), trial.Writes(2, api.Pin, 2, 0, 2), trial.Reads(2, api.Epoch, 0, 1),
		trial.Reads(3, api.Epoch, 0, 1), trial.Reads(3, api.Pin, 0, 2), trial.Reads(3, api.Pin, 1, 1), trial.Reads(3, api.Epoch, 0, 1), trial.Reads(3, api.Limbo, 2, 0))
}

// P5.1: a Collect that loses the race for Epoch goes on by the epoch that is then; one that loses that for limbo frees nothing.
func TestCollectLoses(t *testing.T) {
	l := [][]api.Op{{retire(1), collect()}, {collect(), collect()}}
	x := ran(t, ring(2, 2), l, trial.Turns(0, 7, 1, 11, 0, 3, 1, 9, 0, 9), 7,
		trial.Reads(1, api.Epoch, 0, 0), trial.Reads(1, api.Pin, 0, 0), trial.Reads(1, api.Pin, 1, 0), trial.Swaps(1, api.Epoch, 0, 0, 1), trial.Reads(1, api.Epoch, 0, 1), trial.Reads(1, api.Limbo, 2, 0),
		trial.Reads(1, api.Epoch, 0, 1), trial.Reads(1, api.Pin, 0, 0), trial.Reads(1, api.Pin, 1, 0), trial.Swaps(1, api.Epoch, 0, 1, 2), trial.Reads(1, api.Epoch, 0, 2),
		trial.Loses(0, api.Epoch, 0, 0, 1, 2), trial.Reads(0, api.Epoch, 0, 2), trial.Reads(0, api.Limbo, 0, 2),
		trial.Reads(1, api.Limbo, 0, 2), trial.Swaps(1, api.Limbo, 0, 2, 0),
		trial.Reads(1, api.Link, 1, 1<<32), trial.Reads(1, api.Free, 0, 0), trial.Writes(1, api.Link, 1, 1<<32, 1<<32), trial.Swaps(1, api.Free, 0, 0, 1<<32|2),
		trial.Loses(0, api.Limbo, 0, 2, 0, 0))
	came(t, x,
		api.Call{Thread: 0, Kind: api.Retire, Val: 1, From: 0, To: 3},
		api.Call{Thread: 0, Kind: api.Collect, Val: 9, From: 4, To: 27},
		api.Call{Thread: 1, Kind: api.Collect, Val: 9, From: 7, To: 12},
		api.Call{Thread: 1, Kind: api.Collect, Val: 9, From: 13, To: 26})
}

// P5.2: Retire retires the segment Val modulo M, of the life 0, the trace telling its Val as it was.
func TestRetireModulo(t *testing.T) {
	for _, segments := range []int{2, 3, 7, 63, 64} {
		for _, val := range []uint32{0, 1, 2, 3, 6, 7, 62, 63, 64, 65, 1000, 1<<31 - 1, 1 << 31, 1<<31 + 1, math.MaxUint32 - 1, math.MaxUint32} {
			h := uint64(val) % uint64(segments)
			x := ran(t, ring(1, segments), [][]api.Op{{retire(val)}}, trial.Turns(0, 9), 0,
				trial.Reads(0, api.Epoch, 0, 0), trial.Reads(0, api.Limbo, 0, 0), trial.Writes(0, api.Link, int(h), 0, 1<<32), trial.Swaps(0, api.Limbo, 0, 0, h+1))
			came(t, x, api.Call{Kind: api.Retire, Val: val, From: 0, To: 3})
		}
	}
}

// P5.2: a Queue's and a Stack's configs run, too: what is retired there may be free already, and is linked anew.
func TestKinds(t *testing.T) {
	for _, kind := range []int{api.Queue, api.Stack} {
		c := api.Config{Kind: kind, K: 3, T: 1, M: 4}
		ran(t, c, [][]api.Op{{retire(2)}}, trial.Turns(0, 9), 0,
			trial.Reads(0, api.Epoch, 0, 0), trial.Reads(0, api.Limbo, 0, 0), trial.Writes(0, api.Link, 2, 4, 1<<32), trial.Swaps(0, api.Limbo, 0, 0, 3))
	}
}

// P5.2: calls that aren't over, threads without calls or without turns, picks of none.
func TestNotOver(t *testing.T) {
	l := [][]api.Op{{hold(), drop()}, nil, {retire(1)}, {collect()}}
	x := ran(t, ring(4, 2), l, trial.Picked(2, -1, 0, 4, 1, 0, 2, math.MinInt, math.MaxInt), 0,
		trial.Reads(2, api.Epoch, 0, 0), trial.Reads(0, api.Epoch, 0, 0), trial.Writes(0, api.Pin, 0, 0, 1), trial.Reads(2, api.Limbo, 0, 0))
	came(t, x,
		api.Call{Thread: 2, Kind: api.Retire, Val: 1, From: 0, To: -1},
		api.Call{Thread: 0, Kind: api.Hold, Val: 7, From: 1, To: -1})
	came(t, ran(t, ring(4, 2), l, nil, 0))
	came(t, ran(t, ring(2, 2), [][]api.Op{nil, {}}, trial.Turns(0, 3, 1, 3), 0))
}

// nothing holds a run against nothing, and Arg.
func nothing(t *testing.T, n trial.Input) {
	t.Helper()
	if x, e := Run(n.Config, n.Calls, n.Picks); e != api.Arg || !trial.Same(x, api.Trace{}) {
		t.Errorf("%v, %d lists, %d picks: %+v %v", n.Config, len(n.Calls), len(n.Picks), x, e)
	}
}

// P5.2: what no layer runs.
func TestArg(t *testing.T) {
	for _, kind := range []int{api.Queue, api.Ring, api.Stack} {
		for _, o := range []api.Op{hold(), drop(), retire(1), collect()} {
			for _, n := range trial.Wrong(kind, o) {
				nothing(t, n)
			}
		}
	}
}

// P5.2: a call of another Kind, wherever it stands, and whether it begins or not.
func TestOtherKind(t *testing.T) {
	kinds := []int{api.Put, api.Get, api.Take, api.Give, 0, -1, 9, -api.Hold, 1<<8 + api.Hold, 1<<16 + api.Drop, 1<<32 + api.Retire, 1<<32 + api.Collect, math.MinInt, math.MaxInt}
	for _, kind := range kinds {
		o := api.Op{Kind: kind, Val: 1}
		for _, l := range [][][]api.Op{
			{{o}, nil},
			{{hold(), drop(), o}, {collect()}},
			{nil, {o, retire(1)}},
			{{retire(0)}, {collect(), o, collect()}},
		} {
			for _, picks := range [][]api.Pick{nil, trial.Turns(0, 1), trial.Turns(0, 9, 1, 9)} {
				nothing(t, trial.Input{Config: ring(2, 2), Calls: l, Picks: picks})
			}
		}
	}
}

// Rule 3: what is handed in isn't changed, its spare room neither, and answers share nothing.
func TestOwn(t *testing.T) {
	n := trial.Input{Config: ring(2, 2), Calls: [][]api.Op{{hold(), retire(1), drop()}, {collect()}}, Picks: trial.Turns(0, 2, 1, 2, 0, 5, 1, 3)}
	if s := trial.Meddles(Run, n, expected(n.Config, n.Calls, n.Picks)); s != "" {
		t.Error(s)
	}
}
