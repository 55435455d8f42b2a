package fifo

import (
	"encoding/binary"
	"slices"
	"testing"

	"shunting/api"
	"shunting/trial"
)

// order looks for an order of calls in which a queue could have done them one by one, each getting one of the K oldest values.
type order struct {
	oldest int
	calls  []api.Call
	tried  map[string]bool // which calls are behind, and which values there are: it didn't go on from there
}

// orderly: is there such an order?
func orderly(oldest int, calls []api.Call) bool {
	o := order{oldest, calls, map[string]bool{}}
	return o.goes(0, nil)
}

// goes: does it go on from here, behind the calls of these bits, with these values?
func (o *order) goes(behind uint64, row []uint32) bool {
	key := string(binary.AppendUvarint(nil, behind))
	for _, val := range row {
		key += string(binary.AppendUvarint(nil, uint64(val)))
	}
	if o.tried[key] {
		return false
	}
	o.tried[key] = true
	all := true
	for i, call := range o.calls {
		if behind>>i&1 == 1 {
			continue
		}
		all = all && call.To < 0
		if o.first(behind, call) && o.does(behind|1<<i, row, call) {
			return true
		}
	}
	return all
}

// first: is none of the calls that aren't behind ahead of this one?
func (o *order) first(behind uint64, call api.Call) bool {
	for i, other := range o.calls {
		if behind>>i&1 == 0 && other.To >= 0 && other.To < call.From {
			return false
		}
	}
	return true
}

// does: does it go on, if the call does what it told?
func (o *order) does(behind uint64, row []uint32, call api.Call) bool {
	switch {
	case call.Kind == api.Put && call.Code == api.OK:
		return o.goes(behind, append(row[:len(row):len(row)], call.Val))
	case call.Kind == api.Get && call.Code == api.OK:
		for i, val := range row {
			if i < o.oldest && (call.To < 0 || call.Out == val) && o.goes(behind, append(row[:i:i], row[i+1:]...)) {
				return true
			}
		}
		return false
	case call.Kind == api.Get:
		return len(row) == 0 && o.goes(behind, row)
	}
	return o.goes(behind, row)
}

// What runs are held against is itself held against histories that may be, or may not.
func TestOrderly(t *testing.T) {
	put := func(val uint32, from, to int) api.Call {
		return api.Call{Kind: api.Put, Val: val, From: from, To: to}
	}
	get := func(out uint32, from, to int) api.Call {
		return api.Call{Kind: api.Get, From: from, To: to, Out: out}
	}
	empty := func(from, to int) api.Call {
		return api.Call{Kind: api.Get, From: from, To: to, Code: api.Empty}
	}
	for i, c := range []struct {
		calls []api.Call
		least int // the least K with which it may be; 9: it may not
	}{
		{nil, 1},
		{[]api.Call{put(1, 0, 1), put(2, 2, 3), get(1, 4, 5), get(2, 6, 7), empty(8, 9)}, 1},
		{[]api.Call{put(1, 0, 1), put(2, 2, 3), get(2, 4, 5)}, 2},
		{[]api.Call{put(1, 0, 2), put(2, 1, 3), get(2, 4, 5)}, 1},
		{[]api.Call{put(1, 0, 1), put(2, 2, 3), put(3, 4, 5), get(3, 6, 7)}, 3},
		{[]api.Call{put(1, 0, 1), put(2, 2, 3), get(2, 4, 7), get(1, 5, 6)}, 1},
		{[]api.Call{put(1, 0, 1), empty(2, 3)}, 9},
		{[]api.Call{put(1, 0, 2), empty(1, 3)}, 1},
		{[]api.Call{put(1, 0, 1), get(1, 2, 4), empty(3, 5)}, 1},
		{[]api.Call{put(1, 0, 1), get(1, 2, -1), empty(3, 5)}, 1},
		{[]api.Call{put(1, 0, 1), get(1, 2, 3), get(1, 4, 5)}, 9},
		{[]api.Call{put(1, 0, 1), get(2, 2, 3)}, 9},
		{[]api.Call{get(1, 0, 1), put(1, 2, 3)}, 9},
		{[]api.Call{put(1, 0, -1), get(1, 2, 3)}, 1},
		{[]api.Call{put(1, 0, -1), empty(2, 3)}, 1},
		{[]api.Call{{Kind: api.Put, Val: 1, To: 1, Code: api.NoMem}, get(1, 2, 3)}, 9},
		{[]api.Call{{Kind: api.Put, Val: 1, To: 1, Code: api.NoMem}, empty(2, 3)}, 1},
	} {
		for oldest := 1; oldest < 5; oldest++ {
			if orderly(oldest, c.calls) != (oldest >= c.least) {
				t.Errorf("%d: with K %d %v", i, oldest, oldest < c.least)
			}
		}
	}
}

// fewCalls are at most 12 calls, each Put's value being its own.
func fewCalls(next func(n int) int, threads int) [][]api.Op {
	l := make([][]api.Op, threads)
	puts := 3 + next(6)
	for n := range 12 {
		i := next(threads)
		switch {
		case next(10) == 0:
			l[i] = append(l[i], collect())
		case next(10) < puts:
			l[i] = append(l[i], put(uint32(n+1)))
		default:
			l[i] = append(l[i], get())
		}
	}
	return l
}

// P6.3: whatever is picked, there is an order of the calls in which each value that is got is one of the K oldest, and Empty is told of an empty queue.
func TestOrder(t *testing.T) {
	next := trial.Mixed(12)
	codes := map[api.Code]int{}
	for n := range 12000 {
		c := queue(1+next(3), 2+next(3), 2+next(4))
		l := fewCalls(next, c.T)
		picks := trial.Bursts(next, c.T, 60+next(300))
		if n%2 == 0 {
			for i := range picks {
				picks[i].Thread = next(c.T)
			}
		}
		x, e := Run(c, l, picks)
		if e != api.OK || !orderly(c.K, x.Calls) {
			t.Fatalf("%v %v %v: %+v %v", c, l, picks, x.Calls, e)
		}
		for _, call := range x.Calls {
			codes[call.Code]++
		}
	}
	if codes[api.Empty] < 1000 || codes[api.NoMem] < 1000 {
		t.Errorf("just %v", codes)
	}
}

// life is that of a value: when it was put, and when it was got, by the numbers of the steps. never, if it wasn't.
type life struct{ putFrom, putTo, gotFrom, gotTo int }

// never is behind all steps.
const never = 1 << 40

// livesOf are those of all values of a trace; each must have been put by one call, and got by one at most.
func livesOf(t *testing.T, x api.Trace) map[uint32]life {
	t.Helper()
	end := func(to int) int {
		if to < 0 {
			return never
		}
		return to
	}
	l := map[uint32]life{}
	for _, call := range x.Calls {
		if call.Kind == api.Put && call.Code == api.OK {
			l[call.Val] = life{call.From, end(call.To), never, never}
		}
	}
	for _, call := range x.Calls {
		if call.Kind != api.Get || call.To < 0 || call.Code != api.OK {
			continue
		}
		v, is := l[call.Out]
		if !is || v.gotTo != never || v.putFrom > call.To {
			t.Fatalf("%d is got, though it wasn't put, or once more: %+v", call.Out, x.Calls)
		}
		v.gotFrom, v.gotTo = call.From, call.To
		l[call.Out] = v
	}
	return l
}

// older counts the values that were surely put ahead of a step, and were surely there still behind another one.
func older(l map[uint32]life, from, to int) (n int) {
	for _, v := range l {
		if v.putTo < from && v.gotFrom > to {
			n++
		}
	}
	return n
}

// manyOps are how many calls a thread has there.
const manyOps = 25

// manyCalls are calls of which each Put's value is its own; the thread 0 gets what is left, at the end.
func manyCalls(next func(n int) int, threads int) [][]api.Op {
	l := make([][]api.Op, threads)
	val := uint32(0)
	for i := range l {
		for range manyOps {
			switch n := next(20); {
			case n < 10:
				val++
				l[i] = append(l[i], put(val))
			case n < 19:
				l[i] = append(l[i], get())
			default:
				l[i] = append(l[i], collect())
			}
		}
	}
	for range val + 1 {
		l[0] = append(l[0], get())
	}
	return l
}

// P6.3, at length: no value is made up, got twice or lost; one that is got has fewer than K that are surely older; Empty is told when none is surely there.
func TestOldest(t *testing.T) {
	next := trial.Mixed(13)
	most := map[int]int{} // how many older ones a value had, at most, by K
	for n := range 60 {
		c := queue([]int{1, 2, 4, 16, 64}[n%5], 2+next(4), 3+next(30))
		if c.K == api.MaxK {
			c.T = 2 // with more of them the picks don't do
		}
		l := manyCalls(next, c.T)
		picks := trial.Bursts(next, c.T, next(3000))
		for i := range c.T - 1 {
			picks = append(picks, trial.Turns(1+i, manyOps*(30+3*c.K))...)
		}
		picks = append(picks, trial.Turns(0, api.MaxPicks-len(picks))...)
		x, e := Run(c, l, picks)
		if e != api.OK {
			t.Fatal(e)
		}
		values := livesOf(t, x)
		for _, call := range x.Calls {
			if call.Kind != api.Get || call.To < 0 {
				continue
			}
			if call.Code == api.Empty {
				if older(values, call.From, call.To) > 0 {
					t.Fatalf("%v: %+v, though there is a value: %+v", c, call, x.Calls)
				}
				continue
			}
			n := older(values, values[call.Out].putFrom, call.To)
			if n >= c.K {
				t.Fatalf("%v: %+v, though %d are older: %+v", c, call, n, x.Calls)
			}
			most[c.K] = max(most[c.K], n)
		}
		drained(t, c, x, values)
	}
	if most[2] < 1 || most[4] < 2 || most[16] < 8 || most[64] < 8 {
		t.Errorf("values had at most so many older ones, by K: %v", most)
	}
}

// drained holds a trace against what it comes to when all calls are over, the last one telling Empty: no value is lost, and no segment (P2, P3).
func drained(t *testing.T, c api.Config, x api.Trace, values map[uint32]life) {
	t.Helper()
	if last := x.Calls[len(x.Calls)-1]; last.Code != api.Empty || last.To < 0 {
		t.Fatalf("%v: the last call: %+v of %d", c, last, len(x.Steps))
	}
	for val, v := range values {
		if v.putTo != never && v.gotTo == never {
			t.Fatalf("%v: %d is lost: %+v", c, val, x.Calls)
		}
	}
	l := slices.Concat(chained(x.End.Link, x.End.Free), chained(x.End.Next, x.End.Head))
	for _, w := range x.End.Limbo {
		l = append(l, chained(x.End.Link, w)...)
	}
	slices.Sort(l)
	if len(slices.Compact(slices.Clone(l))) != c.M || len(l) != c.M {
		t.Fatalf("%v: the segments at the end: %v", c, l)
	}
}

// chained are the segments of a list, from the one that a word leads to on; at most as many as there are words behind it, and one more.
func chained(behind []uint64, w uint64) (l []int) {
	for low := w & trial.Low; low != 0 && len(l) <= len(behind); low = behind[low-1] & trial.Low {
		l = append(l, int(low-1))
	}
	return l
}
