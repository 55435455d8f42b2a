package arena

import (
	"math"
	"slices"
	"testing"

	"shunting/api"
	"shunting/store"
	"shunting/trial"
)

// take and give are calls; a Take's Val has no say.
func take(val uint32) api.Op { return api.Op{Kind: api.Take, Val: val} }

func give(val uint32) api.Op { return api.Op{Kind: api.Give, Val: val} }

// The accesses that the chapter tells.
func readFree() api.Access { return api.Access{Do: api.Read, Area: api.Free} }

func readLink(h int) api.Access { return api.Access{Do: api.Read, Area: api.Link, At: h} }

func writeLink(h int, w uint64) api.Access {
	return api.Access{Do: api.Write, Area: api.Link, At: h, New: w}
}

func swapFree(old, w uint64) api.Access {
	return api.Access{Do: api.Swap, Area: api.Free, Old: old, New: w}
}

// config is one of a kind, with segments of one slot.
func config(kind, threads, segments int) api.Config {
	return api.Config{Kind: kind, K: 1, T: threads, M: segments}
}

// told holds a run against what was told of it: its steps and its calls, and that its words at the end are those behind the steps.
func told(t *testing.T, c api.Config, l [][]api.Op, picks []api.Pick, steps []api.Step, calls []api.Call) {
	t.Helper()
	end, e := store.Replay(c, steps)
	if e != api.OK {
		t.Fatalf("what is told can't be: %v", steps)
	}
	x, e := Run(c, l, picks)
	if e != api.OK || !trial.Same(x, api.Trace{Steps: steps, Calls: calls, End: end}) {
		t.Errorf("%+v %v, not %+v %+v", x, e, steps, calls)
	}
}

// P4.1 and P4.2: segments are taken from the first free one on, until there is none.
func TestTake(t *testing.T) {
	told(t, config(api.Stack, 1, 2), [][]api.Op{{take(0), take(7), take(math.MaxUint32)}}, trial.Picked(0, 0, 0, 0, 0, 0, 0, 0),
		[]api.Step{
			trial.Did(0, readFree(), 1, false), trial.Did(0, readLink(0), 2, false), trial.Did(0, swapFree(1, 0x100000002), 1, true),
			trial.Did(0, readFree(), 0x100000002, false), trial.Did(0, readLink(1), 0, false), trial.Did(0, swapFree(0x100000002, 0x200000000), 0x100000002, true),
			trial.Did(0, readFree(), 0x200000000, false),
		},
		[]api.Call{
			{Kind: api.Take, From: 0, To: 2, Out: 0},
			{Kind: api.Take, Val: 7, From: 3, To: 5, Out: 1},
			{Kind: api.Take, Val: math.MaxUint32, From: 6, To: 6, Code: api.NoMem},
		})
}

// P4.1 and P4.2: segments are given back, and taken again, the last one first.
func TestGive(t *testing.T) {
	told(t, config(api.Queue, 1, 2), [][]api.Op{{take(0), give(1), give(2), take(0)}}, trial.Picked(0, 0, 0, 0, 0, 0, 0, 0, 0, 0, 0, 0, 0),
		[]api.Step{
			trial.Did(0, readFree(), 2, false), trial.Did(0, readLink(1), 0, false), trial.Did(0, swapFree(2, 0x100000000), 2, true),
			trial.Did(0, readFree(), 0x100000000, false), trial.Did(0, writeLink(1, 0), 0, true), trial.Did(0, swapFree(0x100000000, 0x200000002), 0x100000000, true),
			trial.Did(0, readFree(), 0x200000002, false), trial.Did(0, writeLink(0, 2), 0, true), trial.Did(0, swapFree(0x200000002, 0x300000001), 0x200000002, true),
			trial.Did(0, readFree(), 0x300000001, false), trial.Did(0, readLink(0), 2, false), trial.Did(0, swapFree(0x300000001, 0x400000002), 0x300000001, true),
		},
		[]api.Call{
			{Kind: api.Take, From: 0, To: 2, Out: 1},
			{Kind: api.Give, Val: 1, From: 3, To: 5},
			{Kind: api.Give, Val: 2, From: 6, To: 8},
			{Kind: api.Take, From: 9, To: 11, Out: 0},
		})
}

// P4.1: a Take that loses a race begins anew, as often as it does, and comes out with what is there then; here at last nothing.
func TestTakeLoses(t *testing.T) {
	told(t, config(api.Stack, 2, 2), [][]api.Op{{take(0)}, {take(0), take(0)}}, trial.Picked(0, 0, 1, 1, 1, 0, 0, 0, 1, 1, 1, 0, 0, 0),
		[]api.Step{
			trial.Did(0, readFree(), 1, false), trial.Did(0, readLink(0), 2, false),
			trial.Did(1, readFree(), 1, false), trial.Did(1, readLink(0), 2, false), trial.Did(1, swapFree(1, 0x100000002), 1, true),
			trial.Did(0, swapFree(1, 0x100000002), 0x100000002, false), trial.Did(0, readFree(), 0x100000002, false), trial.Did(0, readLink(1), 0, false),
			trial.Did(1, readFree(), 0x100000002, false), trial.Did(1, readLink(1), 0, false), trial.Did(1, swapFree(0x100000002, 0x200000000), 0x100000002, true),
			trial.Did(0, swapFree(0x100000002, 0x200000000), 0x200000000, false), trial.Did(0, readFree(), 0x200000000, false),
		},
		[]api.Call{
			{Thread: 0, Kind: api.Take, From: 0, To: 12, Code: api.NoMem},
			{Thread: 1, Kind: api.Take, From: 2, To: 4, Out: 0},
			{Thread: 1, Kind: api.Take, From: 8, To: 10, Out: 1},
		})
}

// P4.1: a Give that loses a race begins anew, and writes the link anew.
func TestGiveLoses(t *testing.T) {
	told(t, config(api.Stack, 2, 3), [][]api.Op{{take(0), give(0)}, {take(0)}}, trial.Picked(0, 0, 0, 0, 0, 1, 1, 1, 0, 0, 0, 0, 0),
		[]api.Step{
			trial.Did(0, readFree(), 1, false), trial.Did(0, readLink(0), 2, false), trial.Did(0, swapFree(1, 0x100000002), 1, true),
			trial.Did(0, readFree(), 0x100000002, false), trial.Did(0, writeLink(0, 2), 2, true),
			trial.Did(1, readFree(), 0x100000002, false), trial.Did(1, readLink(1), 3, false), trial.Did(1, swapFree(0x100000002, 0x200000003), 0x100000002, true),
			trial.Did(0, swapFree(0x100000002, 0x200000001), 0x200000003, false),
			trial.Did(0, readFree(), 0x200000003, false), trial.Did(0, writeLink(0, 3), 2, true), trial.Did(0, swapFree(0x200000003, 0x300000001), 0x200000003, true),
		},
		[]api.Call{
			{Thread: 0, Kind: api.Take, From: 0, To: 2, Out: 0},
			{Thread: 0, Kind: api.Give, Val: 0, From: 3, To: 11},
			{Thread: 1, Kind: api.Take, From: 5, To: 7, Out: 1},
		})
}

// P4.1 and P4.3: the list comes back to the same first segment, while a Take stands ahead of its Swap: the tag is another one, so that Take doesn't lead the list to a segment that is taken.
func TestTakeComesBack(t *testing.T) {
	told(t, config(api.Stack, 2, 3), [][]api.Op{{take(0)}, {take(0), take(0), give(0)}}, trial.Picked(0, 0, 1, 1, 1, 1, 1, 1, 1, 1, 1, 0, 0, 0, 0),
		[]api.Step{
			trial.Did(0, readFree(), 1, false), trial.Did(0, readLink(0), 2, false),
			trial.Did(1, readFree(), 1, false), trial.Did(1, readLink(0), 2, false), trial.Did(1, swapFree(1, 0x100000002), 1, true),
			trial.Did(1, readFree(), 0x100000002, false), trial.Did(1, readLink(1), 3, false), trial.Did(1, swapFree(0x100000002, 0x200000003), 0x100000002, true),
			trial.Did(1, readFree(), 0x200000003, false), trial.Did(1, writeLink(0, 3), 2, true), trial.Did(1, swapFree(0x200000003, 0x300000001), 0x200000003, true),
			trial.Did(0, swapFree(1, 0x100000002), 0x300000001, false),
			trial.Did(0, readFree(), 0x300000001, false), trial.Did(0, readLink(0), 3, false), trial.Did(0, swapFree(0x300000001, 0x400000003), 0x300000001, true),
		},
		[]api.Call{
			{Thread: 0, Kind: api.Take, From: 0, To: 14, Out: 0},
			{Thread: 1, Kind: api.Take, From: 2, To: 4, Out: 0},
			{Thread: 1, Kind: api.Take, From: 5, To: 7, Out: 1},
			{Thread: 1, Kind: api.Give, Val: 0, From: 8, To: 10},
		})
}

// P4.2: of a Ring nothing is free, till it is given back.
func TestRing(t *testing.T) {
	told(t, config(api.Ring, 1, 3), [][]api.Op{{take(0), give(2), take(0), take(0)}}, trial.Picked(0, 0, 0, 0, 0, 0, 0, 0),
		[]api.Step{
			trial.Did(0, readFree(), 0, false),
			trial.Did(0, readFree(), 0, false), trial.Did(0, writeLink(2, 0), 0, true), trial.Did(0, swapFree(0, 0x100000003), 0, true),
			trial.Did(0, readFree(), 0x100000003, false), trial.Did(0, readLink(2), 0, false), trial.Did(0, swapFree(0x100000003, 0x200000000), 0x100000003, true),
			trial.Did(0, readFree(), 0x200000000, false),
		},
		[]api.Call{
			{Kind: api.Take, From: 0, To: 0, Code: api.NoMem},
			{Kind: api.Give, Val: 2, From: 1, To: 3},
			{Kind: api.Take, From: 4, To: 6, Out: 2},
			{Kind: api.Take, From: 7, To: 7, Code: api.NoMem},
		})
}

// P4.2: what is given back twice leads to itself, and is taken as often as it is asked for.
func TestGiveTwice(t *testing.T) {
	c := config(api.Stack, 1, 2)
	x, e := Run(c, [][]api.Op{{give(0), take(0), take(0), take(0)}}, trial.Picked(0, 0, 0, 0, 0, 0, 0, 0, 0, 0, 0, 0))
	if e != api.OK || len(x.Calls) != 4 || x.End.Free != 0x400000001 || x.End.Link[0] != 1 {
		t.Fatalf("%+v %v", x, e)
	}
	for i, call := range x.Calls {
		if call.Code != api.OK || call.Out != 0 || call.To != 3*i+2 {
			t.Errorf("%d: %+v", i, call)
		}
	}
}

// P4.2: Give gives back its Val modulo M, the trace telling its Val as it was.
func TestGiveModulo(t *testing.T) {
	for _, segments := range []int{2, 3, 7, 63, 64} {
		for _, val := range []uint32{0, 1, 2, 3, 6, 7, 62, 63, 64, 65, 1000, 1<<31 - 1, 1 << 31, 1<<31 + 1, math.MaxUint32 - 1, math.MaxUint32} {
			c := config(api.Stack, 1, segments)
			h := int(uint64(val) % uint64(segments))
			told(t, c, [][]api.Op{{give(val)}}, trial.Picked(0, 0, 0),
				[]api.Step{
					trial.Did(0, readFree(), 1, false),
					trial.Did(0, writeLink(h, 1), uint64(h+2)%uint64(segments+1), true),
					trial.Did(0, swapFree(1, 1<<32+uint64(h+1)), 1, true),
				},
				[]api.Call{{Kind: api.Give, Val: val, From: 0, To: 2}})
		}
	}
}

// P4.2: calls that aren't over yet, and some that don't begin.
func TestNotOver(t *testing.T) {
	c := config(api.Queue, 2, 3)
	l := [][]api.Op{{take(3), take(4)}, {give(1), give(2)}}
	told(t, c, l, trial.Picked(1, 0, -1, 2, 0),
		[]api.Step{trial.Did(1, readFree(), 2, false), trial.Did(0, readFree(), 2, false), trial.Did(0, readLink(1), 3, false)},
		[]api.Call{{Thread: 1, Kind: api.Give, Val: 1, From: 0, To: -1}, {Thread: 0, Kind: api.Take, Val: 3, From: 1, To: -1}})
	told(t, c, l, nil, nil, nil)
	told(t, c, [][]api.Op{nil, {}}, trial.Picked(0, 1, 0), nil, nil)
}

// P4.2: as many segments as may be are there, and no more.
func TestAllSegments(t *testing.T) {
	for _, c := range []api.Config{config(api.Queue, 1, 64), config(api.Stack, 1, 64), {Kind: api.Stack, K: 64, T: 1, M: 5}} {
		first := 0
		if c.Kind == api.Queue {
			first = 1
		}
		x, e := Run(c, [][]api.Op{slices.Repeat([]api.Op{take(0)}, c.M+2)}, make([]api.Pick, 3*c.M+2))
		if e != api.OK {
			t.Fatal(e)
		}
		for i, call := range x.Calls[:c.M+2] {
			want := api.Call{Kind: api.Take, From: 3 * i, To: 3*i + 2, Out: uint32(first + i)}
			if n := c.M - first; i >= n {
				want = api.Call{Kind: api.Take, From: 2*n + i, To: 2*n + i, Code: api.NoMem}
			}
			if call != want {
				t.Errorf("%v, %d: %+v, not %+v", c, i, call, want)
			}
		}
	}
}

// P4.2: as many calls and as many picks as may be, and one more of each.
func TestMost(t *testing.T) {
	c := config(api.Stack, 8, 64)
	l := make([][]api.Op, c.T)
	for i := range l {
		for n := range 1000 {
			l[i] = append(l[i], []api.Op{take(0), give(uint32(n + i))}[n%2])
		}
	}
	picks := make([]api.Pick, 20000)
	for i := range picks {
		picks[i] = api.Pick{Thread: i * 7 / 2 % 9, Draw: uint32(i)}
	}
	if x, e := Run(c, l, picks); e != api.OK || !trial.Same(x, expected(c, l, picks)) {
		t.Errorf("%d steps, %d calls, %v", len(x.Steps), len(x.Calls), e)
	}
	nothing(t, "20001 picks", c, l, append(slices.Clone(picks), api.Pick{Thread: -1}))
	for i := range l {
		k := slices.Clone(l)
		k[i] = append(slices.Clone(k[i]), take(0))
		nothing(t, "1001 calls", c, k, picks[:10])
	}
}

// nothing holds a run against nothing, and Arg.
func nothing(t *testing.T, what string, c api.Config, l [][]api.Op, picks []api.Pick) {
	t.Helper()
	if x, e := Run(c, l, picks); e != api.Arg || !trial.Same(x, api.Trace{}) {
		t.Errorf("%s, %v, %d lists, %d picks: %+v %v", what, c, len(l), len(picks), x, e)
	}
}

// P4.2: a call of another Kind, wherever it stands, and whether it begins or not.
func TestOtherKind(t *testing.T) {
	kinds := []int{api.Put, api.Get, api.Collect, api.Hold, api.Drop, api.Retire, 0, -1, 9, -api.Take, 1<<8 + api.Take, 1<<16 + api.Give, 1<<32 + api.Take, 1<<32 + api.Give, math.MinInt, math.MaxInt}
	for _, kind := range kinds {
		o := api.Op{Kind: kind, Val: 1}
		for _, l := range [][][]api.Op{
			{{o}, nil},
			{{take(0), give(0), o}, {take(0)}},
			{nil, {o, take(0)}},
			{{take(0)}, {give(1), o, give(1)}},
		} {
			for _, picks := range [][]api.Pick{nil, trial.Picked(0), trial.Picked(0, 1, 0, 1, 0, 1, 0, 1)} {
				nothing(t, "another kind", config(api.Stack, 2, 2), l, picks)
			}
		}
	}
}

// P4.2: a config that may not be, and another number of lists than T.
func TestArg(t *testing.T) {
	calls := []api.Op{take(0), give(1)}
	strange := []int{-1, -2, 0, 65, 1 << 32, 1<<32 + 2, math.MaxInt, math.MinInt}
	for _, n := range strange {
		for _, c := range []api.Config{{Kind: n, K: 1, T: 2, M: 2}, {Kind: api.Stack, K: n, T: 2, M: 2}, {Kind: api.Queue, K: 1, T: n, M: 2}, {Kind: api.Stack, K: 1, T: 2, M: n}} {
			for lists := range 10 {
				nothing(t, "a config", c, slices.Repeat([][]api.Op{calls}, lists), trial.Picked(0, 0, 1, 1))
				nothing(t, "a config, no calls", c, make([][]api.Op, lists), trial.Picked(0, 0, 1, 1))
			}
		}
	}
	nothing(t, "a fourth kind", config(4, 1, 2), [][]api.Op{calls}, trial.Picked(0, 0))
	nothing(t, "nine threads", config(api.Stack, 9, 2), slices.Repeat([][]api.Op{calls}, 9), trial.Picked(0, 0))
	nothing(t, "one segment", config(api.Stack, 1, 1), [][]api.Op{calls}, trial.Picked(0, 0))
	for threads := 1; threads <= 8; threads++ {
		for lists := range 12 {
			if lists != threads {
				nothing(t, "the lists", config(api.Stack, threads, 2), slices.Repeat([][]api.Op{calls}, lists), trial.Picked(0, 0))
				nothing(t, "the lists, no calls", config(api.Ring, threads, 2), make([][]api.Op, lists), trial.Picked(0, 0))
			}
		}
	}
}

// Rule 3: what is handed in isn't changed, its spare room neither, and answers share nothing.
func TestOwn(t *testing.T) {
	n := trial.Input{Config: config(api.Stack, 2, 2), Calls: [][]api.Op{{take(1), give(2)}, {take(1)}}, Picks: trial.Picked(0, 1, 1, 0, 0, 1, 0, 1, 0)}
	if s := trial.Meddles(Run, n, expected(n.Config, n.Calls, n.Picks)); s != "" {
		t.Error(s)
	}
}
