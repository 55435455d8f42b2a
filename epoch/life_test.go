package epoch

import (
	"testing"

	"shunting/api"
	"shunting/trial"
)

// pinnedCalls are calls of threads that retire only while they are pinned, and each segment once.
func pinnedCalls(next func(n int) int, c api.Config) [][]api.Op {
	l := make([][]api.Op, c.T)
	for h := 0; h < c.M; {
		i := next(c.T)
		l[i] = append(l[i], hold())
		for range next(4) {
			if h < c.M {
				l[i] = append(l[i], retire(uint32(h)))
				h++
			}
			if next(4) == 0 {
				l[i] = append(l[i], collect())
			}
		}
		l[i] = append(l[i], drop())
		for range next(4) {
			l[i] = append(l[i], collect())
		}
	}
	return l
}

// pinning is a thread's time from when on it is pinned, its Hold being over, up to when.
type pinning struct{ thread, from, to int }

// pinnings are all those of a trace.
func pinnings(x api.Trace) (l []pinning) {
	on := map[int]int{} // of each thread, from when on
	for _, call := range x.Calls {
		switch {
		case call.Kind == api.Hold && call.To >= 0:
			on[call.Thread] = call.To
		case call.Kind == api.Drop:
			l = append(l, pinning{call.Thread, on[call.Thread], call.From})
			delete(on, call.Thread)
		}
	}
	for thread, from := range on {
		l = append(l, pinning{thread, from, len(x.Steps)})
	}
	return l
}

// freed tells of each segment at which step it was given back.
func freed(t *testing.T, x api.Trace) map[int]int {
	t.Helper()
	l := map[int]int{}
	for i, s := range x.Steps {
		if s.Access.Area != api.Free || !s.Done {
			continue
		}
		h := int(s.Access.New&top) - 1
		if _, twice := l[h]; twice {
			t.Fatalf("%d is given back twice: %+v", h, x)
		}
		l[h] = i
	}
	return l
}

// P5.3: what was retired while a thread was pinned isn't given back as long as that one is, whatever is picked.
func TestPinnedKeeps(t *testing.T) {
	next := trial.Mixed(8)
	back, kept := 0, 0
	for _, threads := range []int{1, 2, 3, 8} {
		for range 250 {
			c := ring(threads, 2+next(15))
			l := pinnedCalls(next, c)
			x, e := Run(c, l, trial.Bursts(next, threads, 50*c.M))
			if e != api.OK {
				t.Fatal(e)
			}
			free, pins := freed(t, x), pinnings(x)
			for _, call := range x.Calls {
				at, is := free[int(call.Val)]
				if call.Kind != api.Retire || !is {
					continue
				}
				back++
				for _, p := range pins {
					if p.from < call.From && call.From < p.to {
						if p.thread != call.Thread {
							kept++
						}
						if at < p.to {
							t.Fatalf("%+v: given back at %d, a thread being pinned from %d to %d: %+v", call, at, p.from, p.to, x)
						}
					}
				}
			}
		}
	}
	if back < 1000 || kept < 1000 {
		t.Errorf("just %d were given back, and kept by %d pins of others", back, kept)
	}
}

// chained are the segments of a list, from a number and 1 on; at most as many as there are links, and one more.
func chained(m api.Mem, low uint64) (l []int) {
	for low &= top; low != 0 && len(l) <= len(m.Link); low = m.Link[low-1] & top {
		l = append(l, int(low-1))
	}
	return l
}

// again are picks by which the same steps are done, and no others, also if threads have more calls.
func again(x api.Trace) (l []api.Pick) {
	for _, s := range x.Steps {
		l = append(l, api.Pick{Thread: s.Thread})
	}
	return l
}

// P5.3's other side: when all calls are over, and nobody is pinned, three times Collect leave none in limbo: each segment is free, once, with its next life.
func TestThreeTimes(t *testing.T) {
	next := trial.Mixed(9)
	limbo := 0
	for _, threads := range []int{1, 2, 3, 8} {
		for range 100 {
			c := ring(threads, 2+next(15))
			l := pinnedCalls(next, c)
			picks := trial.Bursts(next, threads, next(40*c.M))
			for i := range threads {
				picks = append(picks, trial.Turns(i, 80*c.M)...)
			}
			before, e := Run(c, l, picks)
			if e != api.OK {
				t.Fatal(e)
			}
			for _, w := range before.End.Limbo {
				limbo += len(chained(before.End, w))
			}
			l[0] = append(l[0], collect(), collect(), collect())
			x, e := Run(c, l, append(again(before), trial.Turns(0, 80*c.M)...))
			if free := chained(x.End, x.End.Free); e != api.OK || len(free) != c.M || len(freed(t, x)) != c.M {
				t.Fatalf("%d of %d are free: %+v %v", len(free), c.M, x, e)
			}
			for at, w := range x.End.Limbo {
				if w&top != 0 {
					t.Fatalf("limbo %d is %#x", at, w)
				}
			}
			for h, w := range x.End.Link {
				if w>>32 != 1 {
					t.Fatalf("the segment %d has the life %d", h, w>>32)
				}
			}
		}
	}
	if limbo < 100 {
		t.Errorf("just %d were in limbo", limbo)
	}
}
