package arena

import (
	"testing"

	"shunting/api"
	"shunting/store"
	"shunting/trial"
)

// place is where a thread stands in its call, as the chapter numbers it: line 0 is none.
type place struct {
	call, line int
	o          api.Op
	free, link uint64 // what was read last
}

// asks is the access that a place's line tells.
func (p *place) asks(segments int) api.Access {
	h := uint64(p.o.Val) % uint64(segments)
	tag := p.free>>32 + 1 // what is more than 32 bits is shifted out below
	switch {
	case p.line == 1:
		return readFree()
	case p.line == 2 && p.o.Kind == api.Take:
		return readLink(int(p.free&0xffffffff) - 1)
	case p.line == 2:
		return writeLink(int(h), p.free&0xffffffff)
	case p.o.Kind == api.Take:
		return swapFree(p.free, tag<<32|p.link&0xffffffff)
	}
	return swapFree(p.free, tag<<32|(h+1))
}

// hears goes on by what an access was told; over, if it was the call's last one.
func (p *place) hears(was uint64, done bool) (over bool, code api.Code, out uint32) {
	switch p.line {
	case 1:
		p.free = was
		if p.o.Kind == api.Take && was&0xffffffff == 0 {
			return true, api.NoMem, 0
		}
	case 2:
		p.link = was
	default:
		if done && p.o.Kind == api.Take {
			return true, api.OK, uint32(p.free) - 1
		}
		if done {
			return true, api.OK, 0
		}
		p.line = 0
	}
	p.line++
	return false, 0, 0
}

// expected is the run that the chapters tell.
func expected(c api.Config, l [][]api.Op, picks []api.Pick) (x api.Trace) {
	x.End, _ = store.New(c)
	begun, places := make([]int, c.T), make([]place, c.T)
	for _, pick := range picks {
		n := pick.Thread
		if n < 0 || n >= c.T {
			continue
		}
		p := &places[n]
		if p.line == 0 {
			if begun[n] == len(l[n]) {
				continue
			}
			*p = place{call: len(x.Calls), line: 1, o: l[n][begun[n]]}
			begun[n]++
			x.Calls = append(x.Calls, api.Call{Thread: n, Kind: p.o.Kind, Val: p.o.Val, From: len(x.Steps), To: -1})
		}
		s := api.Step{Thread: n, Access: p.asks(c.M)}
		x.End, s.Was, s.Done = store.Do(x.End, s.Access)
		x.Steps = append(x.Steps, s)
		if over, code, out := p.hears(s.Was, s.Done); over {
			call := &x.Calls[p.call]
			call.To, call.Code, call.Out = len(x.Steps)-1, code, out
			p.line = 0
		}
	}
	return x
}

// configs are some of each kind, with one thread, with two, and with more.
func configs() (l []api.Config) {
	for kind := api.Queue; kind <= api.Stack; kind++ {
		for _, threads := range []int{1, 2, 3, 8} {
			l = append(l, config(kind, threads, 2), api.Config{Kind: kind, K: 3, T: threads, M: 5})
		}
	}
	return l
}

// mixedPicks are some of threads that there are, and of such as there aren't.
func mixedPicks(next func(n int) int, threads, n int) []api.Pick {
	l := make([]api.Pick, n)
	for i := range l {
		l[i] = api.Pick{Thread: next(threads*6+2)/6 - next(12)/11, Draw: uint32(next(1 << 31))}
	}
	return l
}

// P4.1 and P4.2: runs of all kinds, of any calls, also such as give back what wasn't taken.
func TestRunMixed(t *testing.T) {
	next := trial.Mixed(4)
	lost := 0
	for _, c := range configs() {
		for n := range 60 {
			l := make([][]api.Op, c.T)
			for i := range l {
				for range next(8) {
					l[i] = append(l[i], api.Op{Kind: api.Take + next(2), Val: uint32(next(1<<31))*2 + uint32(next(2))})
				}
			}
			picks := mixedPicks(next, c.T, n*3)
			want := expected(c, l, picks)
			x, e := Run(c, l, picks)
			if e != api.OK || !trial.Same(x, want) {
				t.Fatalf("%v %v %v: %+v %v, not %+v", c, l, picks, x, e, want)
			}
			for _, s := range x.Steps {
				if s.Access.Do == api.Swap && !s.Done {
					lost++
				}
			}
		}
	}
	if lost < 1000 {
		t.Errorf("just %d races were lost", lost)
	}
}

// holder plays a run in which nothing is given back that wasn't taken: what a thread does next is chosen when its calls are over.
type holder struct {
	next  func(n int) int
	lists [][]api.Op
	held  [][]uint32 // of each thread, what it took and didn't give back
}

// chooses adds a call of a thread: a Take, or a Give of what it holds.
func (h *holder) chooses(thread int) {
	o := take(uint32(h.next(9)))
	if own := h.held[thread]; len(own) > 0 && h.next(2) == 0 {
		n := h.next(len(own))
		o = give(own[n])
		h.held[thread] = append(own[:n:n], own[n+1:]...)
	}
	h.lists[thread] = append(h.lists[thread], o)
}

// plays makes picks, one more at a time, and calls for them.
func (h *holder) plays(c api.Config, n int) (api.Trace, []api.Pick) {
	h.lists, h.held = make([][]api.Op, c.T), make([][]uint32, c.T)
	var x api.Trace
	var picks []api.Pick
	on := make([]bool, c.T)
	for range n {
		thread := h.next(c.T)
		if !on[thread] {
			h.chooses(thread)
			on[thread] = true
		}
		picks = append(picks, api.Pick{Thread: thread})
		x, _ = Run(c, h.lists, picks)
		for _, call := range x.Calls {
			if call.To == len(picks)-1 {
				on[thread] = false
				if call.Kind == api.Take && call.Code == api.OK {
					h.held[thread] = append(h.held[thread], call.Out)
				}
			}
		}
	}
	return x, picks
}

// free are the segments of the free list of words, by their numbers; at most as many as there are links, and one more.
func free(m api.Mem) (l []int) {
	for low := m.Free & 0xffffffff; low != 0 && len(l) <= len(m.Link); low = m.Link[low-1] & 0xffffffff {
		l = append(l, int(low-1))
	}
	return l
}

// owners tells behind each step what is out: taken, and not given back yet.
func owners(t *testing.T, c api.Config, x api.Trace) {
	t.Helper()
	first := 0
	out := map[int]bool{}
	if c.Kind == api.Queue {
		first, out[0] = 1, true
	}
	m, _ := store.New(c)
	for i, s := range x.Steps {
		m, _, _ = store.Do(m, s.Access)
		for _, call := range x.Calls {
			if call.To != i || call.Code != api.OK {
				continue
			}
			switch h := int(call.Out); call.Kind {
			case api.Take:
				if out[h] || h < first || h >= c.M {
					t.Fatalf("%v: %d is taken at the step %d, being out", c, h, i)
				}
				out[h] = true
			case api.Give:
				delete(out, int(call.Val))
			}
		}
		seen := map[int]bool{}
		for _, h := range free(m) {
			if seen[h] || out[h] {
				t.Fatalf("%v: behind the step %d %d is free twice, or being out", c, i, h)
			}
			seen[h] = true
		}
		if len(seen)+len(out) != c.M {
			t.Fatalf("%v: behind the step %d %d are free, and %d out", c, i, len(seen), len(out))
		}
	}
}

// P4.3: whatever is picked, what is out isn't taken once more, and each segment is free or out.
func TestTakenOnce(t *testing.T) {
	h := holder{next: trial.Mixed(5)}
	for _, kind := range []int{api.Queue, api.Stack} {
		for _, c := range []api.Config{config(kind, 2, 2), config(kind, 2, 3), config(kind, 3, 3), config(kind, 3, 4), config(kind, 8, 5)} {
			for range 20 {
				x, picks := h.plays(c, 70)
				if !trial.Same(x, expected(c, h.lists, picks)) {
					t.Fatalf("%v %v %v: %+v", c, h.lists, picks, x)
				}
				owners(t, c, x)
			}
		}
	}
}
