package epoch

import (
	"testing"

	"shunting/api"
	"shunting/drive"
	"shunting/trial"
)

// begun is the machine of a call of a config, as the chapters' lines tell it.
func begun(c api.Config) func(thread int, o api.Op, draw uint32) drive.Machine {
	return func(thread int, o api.Op, _ uint32) drive.Machine {
		switch o.Kind {
		case api.Hold:
			return trial.Holds(thread)
		case api.Drop:
			return trial.Drops(thread)
		case api.Retire:
			return trial.Retires(uint64(o.Val)%uint64(c.M) + 1)
		}
		return trial.Collects(c.T)
	}
}

// expected is the run that the chapters tell.
func expected(c api.Config, l [][]api.Op, picks []api.Pick) api.Trace {
	x, _ := drive.Run(c, l, picks, begun(c))
	return x
}

// anyCalls are calls, of each thread some, of all kinds; most often those that tell a lot come one behind the other.
func anyCalls(next func(n int) int, threads int) [][]api.Op {
	l := make([][]api.Op, threads)
	kinds := []int{api.Hold, api.Drop, api.Retire, api.Retire, api.Collect, api.Collect, api.Collect}
	for i := range l {
		for range next(25) {
			l[i] = append(l[i], api.Op{Kind: kinds[next(len(kinds))], Val: uint32(next(1<<31))*2 + uint32(next(2))})
		}
	}
	return l
}

// lost counts, by their areas, swaps that weren't put.
func lost(n map[int]int, x api.Trace) {
	for _, s := range x.Steps {
		if s.Access.Do == api.Swap && !s.Done {
			n[s.Access.Area]++
		}
	}
}

// P5.1 and P5.2: runs of all kinds, of any calls, also such as retire what is in limbo or free.
func TestRunMixed(t *testing.T) {
	next := trial.Mixed(6)
	losses := map[int]int{}
	for _, kind := range []int{api.Queue, api.Ring, api.Stack} {
		for _, threads := range []int{1, 2, 3, 8} {
			for n := range 150 {
				c := api.Config{Kind: kind, K: 1 + next(3), T: threads, M: 2 + next(8)}
				l, picks := anyCalls(next, threads), trial.Bursts(next, threads, n*4)
				x, e := Run(c, l, picks)
				if want := expected(c, l, picks); e != api.OK || !trial.Same(x, want) {
					t.Fatalf("%v %v %v: %+v %v, not %+v", c, l, picks, x, e, want)
				}
				lost(losses, x)
			}
		}
	}
	for _, area := range []int{api.Epoch, api.Free, api.Limbo} {
		if losses[area] < 50 {
			t.Errorf("just %d races for the area %d were lost", losses[area], area)
		}
	}
}

// P5.2: as many threads, segments, calls and picks as may be.
func TestMost(t *testing.T) {
	next := trial.Mixed(7)
	c := api.Config{Kind: api.Stack, K: api.MaxK, T: api.MaxT, M: api.MaxM}
	l := make([][]api.Op, c.T)
	for i := range l {
		for n := range api.MaxOps {
			kinds := []int{api.Hold, api.Retire, api.Drop, api.Collect}
			l[i] = append(l[i], api.Op{Kind: kinds[n%4], Val: uint32(next(1 << 31))})
		}
	}
	picks := trial.Bursts(next, c.T, api.MaxPicks)
	if x, e := Run(c, l, picks); e != api.OK || !trial.Same(x, expected(c, l, picks)) {
		t.Errorf("%d steps, %d calls, %v", len(x.Steps), len(x.Calls), e)
	}
}

// P5.2 and rule 5: what is retired twice may lead to itself, and so may the free list then: a call that frees it goes on as long as it is picked, and the run ends.
func TestRound(t *testing.T) {
	c := ring(1, 2)
	twice := []api.Op{retire(1), retire(1), collect(), collect()}
	l, picks := [][]api.Op{append(twice, twice...)}, trial.Turns(0, api.MaxPicks)
	x, e := Run(c, l, picks)
	if e != api.OK || len(x.Steps) != api.MaxPicks || len(x.Calls) < 7 || x.Calls[len(x.Calls)-1].To != -1 || !trial.Same(x, expected(c, l, picks)) {
		t.Errorf("%d steps, %d calls, %v", len(x.Steps), len(x.Calls), e)
	}
}
