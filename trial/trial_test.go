package trial

import (
	"slices"
	"testing"

	"shunting/api"
)

// The calls of histories.
func putIn(val uint32, from, to int) api.Call {
	return api.Call{Kind: api.Put, Val: val, From: from, To: to}
}

func gotIn(out uint32, from, to int) api.Call {
	return api.Call{Kind: api.Get, From: from, To: to, Out: out}
}

func emptyIn(from, to int) api.Call {
	return api.Call{Kind: api.Get, From: from, To: to, Code: api.Empty}
}

// histories are some, each with the least K with which it may be, of a queue, and of a stack; 9: it may not.
func histories() []struct {
	calls        []api.Call
	queue, stack int
} {
	return []struct {
		calls        []api.Call
		queue, stack int
	}{
		{nil, 1, 1},
		{[]api.Call{putIn(1, 0, 1), putIn(2, 2, 3), gotIn(1, 4, 5), gotIn(2, 6, 7), emptyIn(8, 9)}, 1, 2},
		{[]api.Call{putIn(1, 0, 1), putIn(2, 2, 3), gotIn(2, 4, 5), gotIn(1, 6, 7), emptyIn(8, 9)}, 2, 1},
		{[]api.Call{putIn(1, 0, 2), putIn(2, 1, 3), gotIn(2, 4, 5)}, 1, 1},
		{[]api.Call{putIn(1, 0, 1), putIn(2, 2, 3), putIn(3, 4, 5), gotIn(3, 6, 7)}, 3, 1},
		{[]api.Call{putIn(1, 0, 1), putIn(2, 2, 3), putIn(3, 4, 5), gotIn(1, 6, 7)}, 1, 3},
		{[]api.Call{putIn(1, 0, 1), putIn(2, 2, 3), putIn(3, 4, 5), gotIn(2, 6, 7)}, 2, 2},
		{[]api.Call{putIn(1, 0, 1), putIn(2, 2, 3), gotIn(2, 4, 7), gotIn(1, 5, 6)}, 1, 1},
		{[]api.Call{putIn(1, 0, 1), putIn(2, 2, 4), gotIn(1, 3, 5), gotIn(2, 6, 7)}, 1, 1},
		{[]api.Call{putIn(1, 0, 1), emptyIn(2, 3)}, 9, 9},
		{[]api.Call{putIn(1, 0, 2), emptyIn(1, 3)}, 1, 1},
		{[]api.Call{putIn(1, 0, 1), gotIn(1, 2, 4), emptyIn(3, 5)}, 1, 1},
		{[]api.Call{putIn(1, 0, 1), gotIn(1, 2, -1), emptyIn(3, 5)}, 1, 1},
		{[]api.Call{putIn(1, 0, 1), gotIn(1, 2, 3), gotIn(1, 4, 5)}, 9, 9},
		{[]api.Call{putIn(1, 0, 1), gotIn(2, 2, 3)}, 9, 9},
		{[]api.Call{gotIn(1, 0, 1), putIn(1, 2, 3)}, 9, 9},
		{[]api.Call{putIn(1, 0, -1), gotIn(1, 2, 3)}, 1, 1},
		{[]api.Call{putIn(1, 0, -1), emptyIn(2, 3)}, 1, 1},
		{[]api.Call{{Kind: api.Put, Val: 1, To: 1, Code: api.NoMem}, gotIn(1, 2, 3)}, 9, 9},
		{[]api.Call{{Kind: api.Put, Val: 1, To: 1, Code: api.NoMem}, emptyIn(2, 3)}, 1, 1},
		{[]api.Call{putIn(1, 0, 1), {Kind: api.Collect, From: 2, To: 3}, gotIn(1, 4, 5)}, 1, 1},
	}
}

// What runs are held against is itself held against histories that may be, or may not. A ring that has room for all is a queue.
func TestOrderly(t *testing.T) {
	for i, h := range histories() {
		for k := 1; k < 5; k++ {
			if Orderly(api.Config{Kind: api.Queue, K: k}, h.calls) != (k >= h.queue) {
				t.Errorf("%d: of a queue, with K %d %v", i, k, k < h.queue)
			}
			if Orderly(api.Config{Kind: api.Ring, K: k, M: 64}, h.calls) != (k >= h.queue) {
				t.Errorf("%d: of a ring, with K %d %v", i, k, k < h.queue)
			}
			if Orderly(api.Config{Kind: api.Stack, K: k}, h.calls) != (k >= h.stack) {
				t.Errorf("%d: of a stack, with K %d %v", i, k, k < h.stack)
			}
		}
	}
}

// Values that are surely ahead are told of the histories, all calls of which are over, as the search tells it.
func TestAhead(t *testing.T) {
	on := func(call api.Call) bool { return call.To < 0 }
	for i, h := range histories() {
		if slices.ContainsFunc(h.calls, on) {
			continue
		}
		for k := 1; k < 5; k++ {
			for kind, least := range map[int]int{api.Queue: h.queue, api.Ring: h.queue, api.Stack: h.stack} {
				c := api.Config{Kind: kind, K: k}
				x := api.Trace{Calls: h.calls}
				values, wrong := Lives(x)
				if wrong == "" {
					_, wrong = Ahead(c, x, values)
				}
				if (wrong == "") != (k >= least) {
					t.Errorf("%d: of the kind %d, with K %d: %q", i, kind, k, wrong)
				}
			}
		}
	}
}

// A ring has room for M times K values, and is full of M less 1 times K at least; a queue never is.
func TestRoom(t *testing.T) {
	fullIn := func(from, to int) api.Call {
		return api.Call{Kind: api.Put, Val: 9, From: from, To: to, Code: api.Full}
	}
	for i, h := range []struct {
		calls  []api.Call
		k, m   int
		may    bool
		spared bool // it may not, but that isn't told of values' lives alone
	}{
		{calls: []api.Call{putIn(1, 0, 1), fullIn(2, 3)}, k: 1, m: 2, may: true},
		{calls: []api.Call{fullIn(0, 1)}, k: 1, m: 2},
		{calls: []api.Call{putIn(1, 0, 2), fullIn(1, 3)}, k: 1, m: 2, may: true},
		{calls: []api.Call{putIn(1, 0, 1), gotIn(1, 2, 3), fullIn(4, 5)}, k: 1, m: 2},
		{calls: []api.Call{putIn(1, 0, 1), gotIn(1, 2, 4), fullIn(3, 5)}, k: 1, m: 2, may: true},
		{calls: []api.Call{putIn(1, 0, 1), gotIn(1, 2, 5), putIn(2, 3, 6), fullIn(4, 7)}, k: 2, m: 2, may: true},
		{calls: []api.Call{putIn(1, 0, 1), gotIn(1, 2, 6), emptyIn(3, 4), fullIn(5, 7)}, k: 1, m: 2, spared: true},
		{calls: []api.Call{putIn(1, 0, 1), fullIn(2, 3)}, k: 1, m: 3},
		{calls: []api.Call{putIn(1, 0, 1), fullIn(2, 3)}, k: 2, m: 2},
		{calls: []api.Call{putIn(1, 0, 1), putIn(2, 2, 3), fullIn(4, 5)}, k: 2, m: 2, may: true},
		{calls: []api.Call{putIn(1, 0, 1), putIn(2, 2, 3), fullIn(4, 5), putIn(3, 6, 7)}, k: 1, m: 3, may: true},
		{calls: []api.Call{putIn(1, 0, 1), putIn(2, 2, 3)}, k: 1, m: 2, may: true},
		{calls: []api.Call{putIn(1, 0, 1), putIn(2, 2, 3), putIn(3, 4, 5), gotIn(1, 6, 7)}, k: 1, m: 2},
		{calls: []api.Call{putIn(1, 0, 1), putIn(2, 2, 3), putIn(3, 4, 6), gotIn(1, 5, 7)}, k: 1, m: 2, may: true},
	} {
		c := api.Config{Kind: api.Ring, K: h.k, M: h.m}
		if Orderly(c, h.calls) != h.may {
			t.Errorf("%d: %v", i, !h.may)
		}
		values, wrong := Lives(api.Trace{Calls: h.calls})
		if wrong != "" {
			t.Fatalf("%d: %s", i, wrong)
		}
		if s := Crowded(c, api.Trace{Calls: h.calls}, values); (s == "") != (h.may || h.spared) {
			t.Errorf("%d: of the values: %q", i, s)
		}
		c.Kind = api.Queue
		if full := func(call api.Call) bool { return call.Code == api.Full }; Orderly(c, h.calls) == slices.ContainsFunc(h.calls, full) {
			t.Errorf("%d: of a queue", i)
		}
	}
}

// A trace that lost a value or a segment, or isn't over, is told.
func TestDrained(t *testing.T) {
	c := api.Config{Kind: api.Stack, K: 1, T: 1, M: 3}
	end := api.Mem{Free: 1, Limbo: []uint64{0, 3, 0}, Head: 2, Link: []uint64{0, 0, 0}, Next: []uint64{3, 0, 2}}
	all := api.Trace{Calls: []api.Call{putIn(1, 0, 1), gotIn(1, 2, 3), emptyIn(4, 5)}, End: end}
	values, _ := Lives(all)
	if s := Drained(c, all, values); s != "" {
		t.Error(s)
	}
	for i, l := range [][]api.Call{
		{putIn(1, 0, 1), emptyIn(4, 5)},
		{putIn(1, 0, 1), gotIn(1, 2, 3), emptyIn(4, -1)},
		{putIn(1, 0, 1), gotIn(1, 2, 3)},
	} {
		x := api.Trace{Calls: l, End: end}
		if values, _ = Lives(x); Drained(c, x, values) == "" {
			t.Errorf("calls %d", i)
		}
	}
	values, _ = Lives(all)
	for i, lead := range []func(m *api.Mem){
		func(m *api.Mem) { m.Free = 0 },
		func(m *api.Mem) { m.Free = 2 },
		func(m *api.Mem) { m.Head = 0 },
		func(m *api.Mem) { m.Limbo = []uint64{3, 3, 0} },
		func(m *api.Mem) { m.Link = []uint64{1, 0, 0} },
	} {
		x := all
		lead(&x.End)
		if Drained(c, x, values) == "" {
			t.Errorf("words %d", i)
		}
	}
}

// A ring's trace that lost a value is told; segments it has none to lose.
func TestDrainedRing(t *testing.T) {
	c := api.Config{Kind: api.Ring, K: 1, T: 1, M: 3}
	end := api.Mem{Limbo: make([]uint64, 3), Link: make([]uint64, 3), Next: make([]uint64, 3), Head: 1, Tail: 1}
	x := api.Trace{Calls: []api.Call{putIn(1, 0, 1), gotIn(1, 2, 3), emptyIn(4, 5)}, End: end}
	values, _ := Lives(x)
	if s := Drained(c, x, values); s != "" {
		t.Error(s)
	}
	x.Calls = slices.Delete(x.Calls, 1, 2)
	values, _ = Lives(x)
	if Drained(c, x, values) == "" {
		t.Error("a value is lost")
	}
}

// A look at a slot of a segment that is free is told, by its step.
func TestLooks(t *testing.T) {
	c := api.Config{Kind: api.Stack, K: 2, T: 1, M: 2}
	take := Taking(0, 1, 2)
	for _, l := range []struct {
		last api.Step
		free bool
	}{
		{Reads(0, api.Slot, 0, 0), false},
		{Reads(0, api.Slot, 1, 0), false},
		{Reads(0, api.Slot, 2, 0), true},
		{Swaps(0, api.Slot, 3, 0, 5), true},
		{Reads(0, api.Next, 1, 0), false},
	} {
		want := -1
		if l.free {
			want = len(take)
		}
		if i := Looks(c, api.Trace{Steps: append(take[:len(take):len(take)], l.last)}); i != want {
			t.Errorf("%+v: %d", l.last, i)
		}
	}
	if i := Looks(c, api.Trace{Steps: Does(Reads(0, api.Slot, 1, 0))}); i != 0 {
		t.Errorf("ahead of taking: %d", i)
	}
}

// A run's steps are told from the ones that it hasn't.
func TestRan(t *testing.T) {
	c := api.Config{Kind: api.Stack, K: 1, T: 1, M: 2}
	x := api.Trace{Steps: Taking(0, 1, 2), End: api.Mem{Free: 1<<32 | 2, Limbo: make([]uint64, 3), Pins: make([]uint64, 1), Link: []uint64{2, 0}, Next: make([]uint64, 2), Slots: make([]uint64, 2)}}
	for from := range 4 {
		if s := Ran(c, x, from, Taking(0, 1, 2)[from:]); s != "" {
			t.Errorf("from %d on: %s", from, s)
		}
	}
	if Ran(c, x, 4) == "" || Ran(c, x, 0, Taking(0, 1, 2)[:2]) == "" || Ran(c, x, 1, Taking(0, 1, 2)) == "" {
		t.Error("more, or fewer, do")
	}
	x.End.Head = 1
	if Ran(c, x, 3) == "" {
		t.Error("other words at the end do")
	}
}
