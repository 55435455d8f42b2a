package drive

import (
	"slices"
	"testing"

	"shunting/api"
	"shunting/store"
	"shunting/trial"
)

// rawExpected is the run that the chapter tells, of accesses that are calls of their own.
func rawExpected(c api.Config, l [][]api.Access, picks []api.Pick) (x api.Trace) {
	x.End, _ = store.New(c)
	begun := make([]int, c.T)
	for _, p := range picks {
		if p.Thread < 0 || p.Thread >= c.T || begun[p.Thread] == len(l[p.Thread]) {
			continue
		}
		a := l[p.Thread][begun[p.Thread]]
		begun[p.Thread]++
		end, was, done := store.Do(x.End, a)
		x.End = end
		call := api.Call{Thread: p.Thread, From: len(x.Steps), To: len(x.Steps)}
		if done {
			call.Out = 1
		}
		x.Calls = append(x.Calls, call)
		x.Steps = append(x.Steps, api.Step{Thread: p.Thread, Access: a, Was: was, Done: done})
	}
	return x
}

// P3.2: accesses of two threads, told one by one: each way, a Swap that puts nothing, one that isn't there, and one of no way; one is left.
func TestRawTold(t *testing.T) {
	c := api.Config{Kind: api.Stack, K: 2, T: 2, M: 2}
	read := api.Access{Do: api.Read, Area: api.Link, At: 0}
	write := api.Access{Do: api.Write, Area: api.Link, At: 0, New: 8}
	swap := api.Access{Do: api.Swap, Area: api.Link, At: 0, Old: 8, New: 9}
	far := api.Access{Do: api.Write, Area: api.Link, At: 2, New: 7}
	never := api.Access{Do: 4, Area: api.Link, At: 0, New: 7}
	x, e := Raw(c, [][]api.Access{{read, swap, swap, read}, {swap, write, far, never}}, trial.Picked(0, 1, 1, -1, 0, 0, 2, 1, 1, 1))
	end, _ := store.New(c)
	end.Link[0] = 9
	want := api.Trace{
		Steps: []api.Step{trial.Did(0, read, 2, false), trial.Did(1, swap, 2, false), trial.Did(1, write, 2, true), trial.Did(0, swap, 8, true), trial.Did(0, swap, 9, false), trial.Did(1, far, 0, false), trial.Did(1, never, 0, false)},
		Calls: []api.Call{
			{Thread: 0, From: 0, To: 0, Out: 0}, {Thread: 1, From: 1, To: 1, Out: 0}, {Thread: 1, From: 2, To: 2, Out: 1}, {Thread: 0, From: 3, To: 3, Out: 1},
			{Thread: 0, From: 4, To: 4, Out: 0}, {Thread: 1, From: 5, To: 5, Out: 0}, {Thread: 1, From: 6, To: 6, Out: 0},
		},
		End: end,
	}
	if e != api.OK || !trial.Same(x, want) {
		t.Errorf("%+v %v, not %+v", x, e, want)
	}
}

// P3.2: the example: one thread, two picks, one access: one step.
func TestRawExample(t *testing.T) {
	c := api.Config{Kind: api.Queue, K: 1, T: 1, M: 2}
	x, e := Raw(c, [][]api.Access{{{Do: api.Read, Area: api.Tail}}}, trial.Picked(0, 0))
	if e != api.OK || len(x.Steps) != 1 || len(x.Calls) != 1 || x.Steps[0].Was != 1 {
		t.Errorf("%+v %v", x, e)
	}
}

// mixedAccesses are some of each thread, to words that there are and to such as there aren't.
func mixedAccesses(next func(n int) int, threads int) [][]api.Access {
	l := make([][]api.Access, threads)
	for i := range l {
		for range next(12) {
			l[i] = append(l[i], api.Access{Do: next(5), Area: next(11), At: next(6) - 1, Old: uint64(next(3)), New: uint64(next(4))})
		}
	}
	return l
}

// P3.2 and P3.3: runs of all kinds, of one thread and of several.
func TestRawMixed(t *testing.T) {
	next := trial.Mixed(2)
	for _, c := range configs() {
		for n := range 40 {
			l := mixedAccesses(next, c.T)
			picks := mixedPicks(next, c.T, n*2)
			want := rawExpected(c, l, picks)
			x, e := Raw(c, l, picks)
			if e != api.OK || !trial.Same(x, want) {
				t.Fatalf("%v %v %v: %+v %v, not %+v", c, l, picks, x, e, want)
			}
			if m, e := store.Replay(c, x.Steps); e != api.OK || !trial.SameMem(m, x.End) {
				t.Fatalf("%v: the steps are replayed to %v %v, not %v", c, m, e, x.End)
			}
		}
	}
}

// P3.2: no picks, no accesses, a thread without any: the words at first, or what the others did.
func TestRawNone(t *testing.T) {
	write := []api.Access{{Do: api.Write, Area: api.Epoch, New: 3}}
	for _, c := range configs() {
		first, _ := store.New(c)
		for _, picks := range [][]api.Pick{nil, {}, trial.Picked(-1, c.T)} {
			if x, e := Raw(c, slices.Repeat([][]api.Access{write}, c.T), picks); e != api.OK || !trial.Same(x, api.Trace{End: first}) {
				t.Errorf("%v %v: %+v %v", c, picks, x, e)
			}
		}
		if x, e := Raw(c, make([][]api.Access, c.T), trial.Picked(0, c.T-1, 0)); e != api.OK || !trial.Same(x, api.Trace{End: first}) {
			t.Errorf("%v, no accesses: %+v %v", c, x, e)
		}
		l := make([][]api.Access, c.T)
		l[c.T-1] = write
		want := rawExpected(c, l, trial.Picked(c.T-1))
		if x, e := Raw(c, l, trial.Picked(0, c.T-1, c.T-1, 0)); e != api.OK || !trial.Same(x, want) {
			t.Errorf("%v, one access: %+v %v", c, x, e)
		}
	}
}

// P3.2: as many accesses and as many picks as may be, and one more of each.
func TestRawMost(t *testing.T) {
	c := api.Config{Kind: api.Queue, K: 1, T: 8, M: 2}
	l := make([][]api.Access, c.T)
	for i := range l {
		l[i] = make([]api.Access, 1000)
		for n := range l[i] {
			l[i][n] = api.Access{Do: 1 + n%3, Area: api.Epoch, Old: uint64(n - 1), New: uint64(n + i)}
		}
	}
	picks := make([]api.Pick, 20000)
	for i := range picks {
		picks[i].Thread = i % 9
	}
	want := rawExpected(c, l, picks)
	if x, e := Raw(c, l, picks); e != api.OK || !trial.Same(x, want) || len(x.Calls) != 8000 {
		t.Errorf("%d steps, %d calls, %v", len(x.Steps), len(x.Calls), e)
	}
	if x, e := Raw(c, l, append(picks, api.Pick{})); e != api.Arg || !trial.Same(x, api.Trace{}) {
		t.Errorf("20001 picks: %d steps, %v", len(x.Steps), e)
	}
	for i := range l {
		k := slices.Clone(l)
		k[i] = append(k[i], api.Access{})
		if x, e := Raw(c, k, picks[:10]); e != api.Arg || !trial.Same(x, api.Trace{}) {
			t.Errorf("1001 accesses of the thread %d: %+v, %v", i, x, e)
		}
	}
}

// P3.2: nothing, and Arg: the config may not be, or there are more or fewer lists than T.
func TestRawArg(t *testing.T) {
	write := []api.Access{{Do: api.Write, Area: api.Epoch, New: 3}}
	for _, c := range wrong() {
		lists := [][][]api.Access{nil, {write}, {write, write}}
		if c.T >= 0 && c.T < 1000 {
			lists = append(lists, slices.Repeat([][]api.Access{write}, c.T))
		}
		for _, l := range lists {
			if x, e := Raw(c, l, trial.Picked(0, 0)); e != api.Arg || !trial.Same(x, api.Trace{}) {
				t.Errorf("%v, %d lists: %+v %v", c, len(l), x, e)
			}
		}
	}
	for _, c := range configs() {
		for _, n := range []int{0, 1, c.T - 1, c.T + 1, 2 * c.T, 100} {
			if n == c.T {
				continue
			}
			for _, l := range [][][]api.Access{make([][]api.Access, n), slices.Repeat([][]api.Access{write}, n)} {
				if x, e := Raw(c, l, trial.Picked(0, 0)); e != api.Arg || !trial.Same(x, api.Trace{}) {
					t.Errorf("%v, %d lists: %+v %v", c, n, x, e)
				}
			}
		}
	}
}

// Rule 3: what is handed in isn't changed, its spare room neither; answers share nothing.
func TestRawOwn(t *testing.T) {
	c := api.Config{Kind: api.Queue, K: 2, T: 2, M: 3}
	write := func(n uint64) api.Access { return api.Access{Do: api.Write, Area: api.Slot, At: 1, New: n} }
	l := roomy([][]api.Access{roomy([]api.Access{write(1), write(2)}, write(3)), roomy([]api.Access{write(4)}, write(5))}, []api.Access{write(6)})
	picks := roomy(trial.Picked(0, 1, 1, 0, 0, 0), api.Pick{Thread: 1, Draw: 5})
	want := rawExpected(c, [][]api.Access{{write(1), write(2)}, {write(4)}}, trial.Picked(0, 1, 0))
	for range 3 {
		x, e := Raw(c, l, picks)
		if e != api.OK || !trial.Same(x, want) {
			t.Fatalf("%+v %v, not %+v", x, e, want)
		}
		scribble(x)
	}
	for i, k := range [][]api.Access{{write(1), write(2), write(3)}, {write(4), write(5)}, {write(6)}} {
		if m := l[:3][i]; !slices.Equal(m[:len(k)], k) {
			t.Errorf("the accesses %d were changed: %v, not %v", i, m[:len(k)], k)
		}
	}
	if len(l[0]) != 2 || len(l[1]) != 1 {
		t.Errorf("the lists were cut: %d, %d", len(l[0]), len(l[1]))
	}
	if k := append(trial.Picked(0, 1, 1, 0, 0, 0), api.Pick{Thread: 1, Draw: 5}); !slices.Equal(picks[:7], k) {
		t.Errorf("the picks were changed: %v, not %v", picks[:7], k)
	}
}
