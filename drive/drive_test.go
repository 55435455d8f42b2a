package drive

import (
	"math"
	"slices"
	"testing"

	"shunting/api"
	"shunting/store"
	"shunting/trial"
)

// The layers above are built on these calls, so they are held to the chapter's signatures from the first stage on.
func TestSignatures(t *testing.T) {
	type machine = interface {
		Next(was uint64, done bool) (a api.Access, more bool)
		Result() (api.Code, uint32)
	}
	type begin = func(thread int, o api.Op, draw uint32) Machine
	type body = func(do func(a api.Access) (was uint64, done bool)) (api.Code, uint32)

	var m Machine
	var _ machine = m
	var _ Machine = machine(nil)
	var _ func(api.Config, [][]api.Op, []api.Pick, begin) (api.Trace, api.Code) = Run
	var _ func(body) Machine = Proc
	var _ func(api.Config, [][]api.Access, []api.Pick) (api.Trace, api.Code) = Raw
}

// pick is a pick of a thread, with a draw.
func pick(thread int, draw uint32) api.Pick { return api.Pick{Thread: thread, Draw: draw} }

// strange are numbers that no thread, and none of a config's numbers, has, though some would be one if they were cut to fewer bits.
func strange() []int {
	return []int{-1, -2, 1<<32 + 1, 1<<32 + 2, 1 << 32, 1<<8 + 1, 1<<16 + 1, math.MaxInt32, math.MinInt32, math.MaxInt, math.MinInt}
}

// wrong are configs that may not be, each because of one number.
func wrong() []api.Config {
	var l []api.Config
	for _, n := range append(strange(), 0, 4) {
		l = append(l, api.Config{Kind: n, K: 1, T: 2, M: 2})
	}
	for _, n := range append(strange(), 0, 65) {
		l = append(l, api.Config{Kind: api.Queue, K: n, T: 2, M: 2})
	}
	for _, n := range append(strange(), 0, 9) {
		l = append(l, api.Config{Kind: api.Ring, K: 1, T: n, M: 2})
	}
	for _, n := range append(strange(), 0, 1, 65) {
		l = append(l, api.Config{Kind: api.Stack, K: 1, T: 2, M: n})
	}
	return l
}

// plan is what a call does: its next access, by what those ahead of it found, or how it comes out, if there is no more.
type plan func(thread int, o api.Op, draw uint32, found []finding) (a api.Access, more bool, code api.Code, out uint32)

// planned is a machine that does what a plan tells. It notes what it was asked.
type planned struct {
	plan    plan
	thread  int
	op      api.Op
	draw    uint32
	nexts   []finding // what each Next was told
	results int
	stops   int
}

func (m *planned) Next(was uint64, done bool) (api.Access, bool) {
	m.nexts = append(m.nexts, finding{was, done})
	a, more, _, _ := m.plan(m.thread, m.op, m.draw, m.nexts[1:])
	return a, more
}

func (m *planned) Result() (api.Code, uint32) {
	m.results++
	_, _, code, out := m.plan(m.thread, m.op, m.draw, m.nexts[1:])
	return code, out
}

func (m *planned) Stop() { m.stops++ }

// unstopped is a machine that can't be stopped.
type unstopped struct{ m Machine }

func (m unstopped) Next(was uint64, done bool) (api.Access, bool) { return m.m.Next(was, done) }

func (m unstopped) Result() (api.Code, uint32) { return m.m.Result() }

// whole tells a plan to Proc.
func (m *planned) whole(do func(a api.Access) (was uint64, done bool)) (api.Code, uint32) {
	var found []finding
	for {
		a, more, code, out := m.plan(m.thread, m.op, m.draw, found)
		if !more {
			return code, out
		}
		was, done := do(a)
		found = append(found, finding{was, done})
	}
}

// expected is the run that the chapter tells, of calls that are planned.
func expected(c api.Config, l [][]api.Op, picks []api.Pick, f plan) (x api.Trace) {
	type call struct {
		number int // in the trace
		draw   uint32
		found  []finding
	}
	x.End, _ = store.New(c)
	begun := make([]int, c.T)
	on := map[int]*call{}
	for _, p := range picks {
		if p.Thread < 0 || p.Thread >= c.T {
			continue
		}
		if on[p.Thread] == nil && begun[p.Thread] < len(l[p.Thread]) {
			o := l[p.Thread][begun[p.Thread]]
			begun[p.Thread]++
			on[p.Thread] = &call{number: len(x.Calls), draw: p.Draw}
			x.Calls = append(x.Calls, api.Call{Thread: p.Thread, Kind: o.Kind, Val: o.Val, From: len(x.Steps), To: -1})
		}
		k := on[p.Thread]
		if k == nil {
			continue
		}
		told := &x.Calls[k.number]
		o := api.Op{Kind: told.Kind, Val: told.Val}
		a, _, _, _ := f(p.Thread, o, k.draw, k.found)
		end, was, done := store.Do(x.End, a)
		x.End = end
		x.Steps = append(x.Steps, api.Step{Thread: p.Thread, Access: a, Was: was, Done: done})
		k.found = append(k.found, finding{was, done})
		if _, more, code, out := f(p.Thread, o, k.draw, k.found); !more {
			told.To, told.Code, told.Out = len(x.Steps)-1, code, out
			on[p.Thread] = nil
		}
	}
	return x
}

// wandering is a plan whose accesses, and how many they are, hang on all that the call is told: it goes from word to word, also to such as aren't there.
func wandering(thread int, o api.Op, draw uint32, found []finding) (api.Access, bool, api.Code, uint32) {
	sum := uint64(o.Kind)*3 + uint64(o.Val)*5 + uint64(draw)*7 + uint64(thread)*11
	for _, f := range found {
		sum = sum*31 + f.was
		if f.done {
			sum++
		}
	}
	if len(found) > 0 && sum%4 == 0 {
		return api.Access{}, false, api.Code(sum / 4 % 9), uint32(sum)
	}
	return api.Access{Do: int(sum % 5), Area: int(sum / 5 % 11), At: int(sum/55%6) - 1, Old: sum / 330 % 3, New: sum / 990 % 4}, true, 0, 0
}

// counting is a plan of as many accesses as the call's Val and 1: a Read of Epoch, then Writes, each of its Kind more than what the access ahead of it was told; it comes out with its draw.
func counting(_ int, o api.Op, draw uint32, found []finding) (api.Access, bool, api.Code, uint32) {
	n := len(found)
	if n > int(o.Val) {
		return api.Access{}, false, api.Full, draw
	}
	if n == 0 {
		return api.Access{Do: api.Read, Area: api.Epoch}, true, 0, 0
	}
	return api.Access{Do: api.Write, Area: api.Epoch, New: found[n-1].was + uint64(o.Kind)}, true, 0, 0
}

// began keeps what Run's begin was asked, and answers machines of a plan.
type began struct {
	plan     plan
	machines []*planned
}

func (b *began) begin(thread int, o api.Op, draw uint32) Machine {
	m := &planned{plan: b.plan, thread: thread, op: o, draw: draw}
	b.machines = append(b.machines, m)
	return m
}

// ways are all ways to begin a plan's calls.
func ways(f plan) map[string]func(thread int, o api.Op, draw uint32) Machine {
	b := &began{plan: f}
	return map[string]func(thread int, o api.Op, draw uint32) Machine{
		"stopped":   b.begin,
		"unstopped": func(thread int, o api.Op, draw uint32) Machine { return unstopped{b.begin(thread, o, draw)} },
		"proc": func(thread int, o api.Op, draw uint32) Machine {
			m := &planned{plan: f, thread: thread, op: o, draw: draw}
			return Proc(m.whole)
		},
	}
}

// mixedPicks are some of threads that there are, and of such as there aren't.
func mixedPicks(next func(n int) int, threads, n int) []api.Pick {
	l := make([]api.Pick, n)
	for i := range l {
		l[i] = api.Pick{Thread: next(threads+2) - 1, Draw: uint32(next(1 << 31))}
		if next(40) == 0 {
			s := strange()
			l[i].Thread = s[next(len(s))]
		}
	}
	return l
}

// mixedOps are calls, of each thread some, of some threads none.
func mixedOps(next func(n int) int, threads int) [][]api.Op {
	l := make([][]api.Op, threads)
	for i := range l {
		for range next(6) {
			l[i] = append(l[i], api.Op{Kind: next(11) - 1, Val: uint32(next(1 << 31))})
		}
	}
	return l
}

// configs are some of each kind, with one thread, with two, and with as many as may be.
func configs() []api.Config {
	var l []api.Config
	for kind := api.Queue; kind <= api.Stack; kind++ {
		for _, threads := range []int{1, 2, 3, 8} {
			l = append(l, api.Config{Kind: kind, K: 1, T: threads, M: 2}, api.Config{Kind: kind, K: 3, T: threads, M: 4})
		}
	}
	return l
}

// P3.1: a run of one thread, told one by one: a call that is begun, and gone on with by the next picks, whatever these draw.
func TestRunOne(t *testing.T) {
	c := api.Config{Kind: api.Ring, K: 1, T: 1, M: 2}
	l := [][]api.Op{{{Kind: 5, Val: 2}, {Kind: 7, Val: 0}}}
	b := began{plan: counting}
	x, e := Run(c, l, trial.Picked(0, 0, 0, 0, 0), b.begin)
	read := api.Access{Do: api.Read, Area: api.Epoch}
	write := func(n uint64) api.Access { return api.Access{Do: api.Write, Area: api.Epoch, New: n} }
	end, _ := store.New(c)
	end.Epoch = 5
	want := api.Trace{
		Steps: []api.Step{trial.Did(0, read, 0, false), trial.Did(0, write(5), 0, true), trial.Did(0, write(5), 5, true), trial.Did(0, read, 5, false)},
		Calls: []api.Call{
			{Thread: 0, Kind: 5, Val: 2, From: 0, To: 2, Code: api.Full, Out: 100},
			{Thread: 0, Kind: 7, Val: 0, From: 3, To: 3, Code: api.Full, Out: 103},
		},
		End: end,
	}
	if e != api.OK || !trial.Same(x, want) {
		t.Errorf("%+v %v, not %+v", x, e, want)
	}
}

// P3.1: a run of three threads, told one by one: calls that overlap, one that is over at once, one that isn't over, one that doesn't begin, and picks that pick nobody.
func TestRunThree(t *testing.T) {
	c := api.Config{Kind: api.Stack, K: 1, T: 3, M: 2}
	l := [][]api.Op{{{Kind: 3, Val: 1}, {Kind: 1, Val: 9}}, {{Kind: 10, Val: 1}}, {{Kind: 4, Val: 0}, {Kind: 6, Val: 0}, {Kind: 8, Val: 3}, {Kind: 8, Val: 4}}}
	b := began{plan: counting}
	x, e := Run(c, l, trial.Picked(1, 0, 3, 2, 1, -1, 1, 0, 2, 2, 1, 0, 2), b.begin)
	read := api.Access{Do: api.Read, Area: api.Epoch}
	write := func(n uint64) api.Access { return api.Access{Do: api.Write, Area: api.Epoch, New: n} }
	end, _ := store.New(c)
	end.Epoch = 11
	want := api.Trace{
		Steps: []api.Step{
			trial.Did(1, read, 0, false), trial.Did(0, read, 0, false), trial.Did(2, read, 0, false), trial.Did(1, write(10), 0, true), trial.Did(0, write(3), 10, true),
			trial.Did(2, read, 3, false), trial.Did(2, read, 3, false), trial.Did(0, read, 3, false), trial.Did(2, write(11), 3, true),
		},
		Calls: []api.Call{
			{Thread: 1, Kind: 10, Val: 1, From: 0, To: 3, Code: api.Full, Out: 100},
			{Thread: 0, Kind: 3, Val: 1, From: 1, To: 4, Code: api.Full, Out: 101},
			{Thread: 2, Kind: 4, Val: 0, From: 2, To: 2, Code: api.Full, Out: 103},
			{Thread: 2, Kind: 6, Val: 0, From: 5, To: 5, Code: api.Full, Out: 108},
			{Thread: 2, Kind: 8, Val: 3, From: 6, To: -1},
			{Thread: 0, Kind: 1, Val: 9, From: 7, To: -1},
		},
		End: end,
	}
	if e != api.OK || !trial.Same(x, want) {
		t.Errorf("%+v %v, not %+v", x, e, want)
	}
}

// P3.1 and P3.3: runs of all kinds, of one thread and of several, of calls that go anywhere.
func TestRunMixed(t *testing.T) {
	next := trial.Mixed(1)
	for _, c := range configs() {
		for n := range 30 {
			l := mixedOps(next, c.T)
			picks := mixedPicks(next, c.T, n*3)
			want := expected(c, l, picks, wandering)
			for name, begin := range ways(wandering) {
				x, e := Run(c, l, picks, begin)
				if e != api.OK || !trial.Same(x, want) {
					t.Fatalf("%v %v %v, %s: %+v %v, not %+v", c, l, picks, name, x, e, want)
				}
				if m, e := store.Replay(c, x.Steps); e != api.OK || !trial.SameMem(m, x.End) {
					t.Fatalf("%v, %s: the steps are replayed to %v %v, not %v", c, name, m, e, x.End)
				}
			}
		}
	}
}

// P3.1: a call begins with its turn, by the thread's number, the call as it stands in the list, and that pick's draw; its machine is asked once for each access, is told what that found ahead of the next one, and for its result once, if it is over.
func TestRunAsks(t *testing.T) {
	c := api.Config{Kind: api.Queue, K: 2, T: 2, M: 3}
	l := [][]api.Op{{{Kind: math.MinInt, Val: math.MaxUint32}, {Kind: math.MaxInt, Val: 1}}, {{Kind: 2, Val: 3}, {Kind: 3, Val: 0}}}
	picks := []api.Pick{pick(1, math.MaxUint32), pick(0, 7), pick(1, 1), pick(1, 2), pick(2, 3), pick(1, 4), pick(1, 5), pick(1, 6)}
	f := func(thread int, o api.Op, draw uint32, found []finding) (api.Access, bool, api.Code, uint32) {
		return api.Access{Do: api.Write, Area: api.Head, New: uint64(len(found) + 5)}, len(found) < 3, api.Empty, 4
	}
	b := began{plan: f}
	if _, e := Run(c, l, picks, b.begin); e != api.OK {
		t.Fatal(e)
	}
	want := []planned{
		{thread: 1, op: api.Op{Kind: 2, Val: 3}, draw: math.MaxUint32, nexts: []finding{{0, false}, {1, true}, {5, true}, {6, true}}, results: 1},
		{thread: 0, op: api.Op{Kind: math.MinInt, Val: math.MaxUint32}, draw: 7, nexts: []finding{{0, false}, {5, true}}, stops: 1},
		{thread: 1, op: api.Op{Kind: 3, Val: 0}, draw: 4, nexts: []finding{{0, false}, {7, true}, {5, true}, {6, true}}, results: 1},
	}
	if len(b.machines) != len(want) {
		t.Fatalf("%d calls began, not %d", len(b.machines), len(want))
	}
	for i, w := range want {
		m := b.machines[i]
		if m.thread != w.thread || m.op != w.op || m.draw != w.draw || m.results != w.results || m.stops != w.stops || !slices.Equal(m.nexts, w.nexts) {
			t.Errorf("%d: %+v, not %+v", i, m, w)
		}
	}
}

// P3.1: a pick that nobody takes (no such thread, or no call of it is left) does nothing.
func TestRunNobody(t *testing.T) {
	c := api.Config{Kind: api.Queue, K: 1, T: 3, M: 2}
	l := [][]api.Op{{{Kind: 1, Val: 0}}, nil, {}}
	want := expected(c, l, trial.Picked(0), counting)
	want.Calls[0].Out = 9
	for _, thread := range append(strange(), 1, 2, 3, 4) {
		picks := []api.Pick{pick(thread, 1), pick(thread, 2), pick(0, 9), pick(thread, 3), pick(0, 4), pick(thread, 5), pick(0, 6)}
		for name, begin := range ways(counting) {
			if x, e := Run(c, l, picks, begin); e != api.OK || !trial.Same(x, want) {
				t.Errorf("picks of the thread %d, %s: %+v %v, not %+v", thread, name, x, e, want)
			}
		}
	}
}

// P3.1: no picks, or no calls: the words are those at first.
func TestRunNone(t *testing.T) {
	for _, c := range configs() {
		first, _ := store.New(c)
		calls := mixedOps(func(n int) int { return n - 1 }, c.T)
		for _, l := range [][][]api.Op{make([][]api.Op, c.T), calls} {
			for _, picks := range [][]api.Pick{nil, {}, trial.Picked(-1, c.T)} {
				b := began{plan: counting}
				x, e := Run(c, l, picks, b.begin)
				if e != api.OK || !trial.Same(x, api.Trace{End: first}) || len(b.machines) != 0 {
					t.Errorf("%v %v: %+v %v", c, picks, x, e)
				}
			}
		}
		x, e := Run(c, make([][]api.Op, c.T), trial.Picked(0, c.T-1, 0), (&began{}).begin)
		if e != api.OK || !trial.Same(x, api.Trace{End: first}) {
			t.Errorf("%v, no calls: %+v %v", c, x, e)
		}
	}
}

// P3.1: as many calls and as many picks as may be, and one more of each.
func TestRunMost(t *testing.T) {
	c := api.Config{Kind: api.Ring, K: 1, T: 8, M: 2}
	l := make([][]api.Op, c.T)
	for i := range l {
		l[i] = make([]api.Op, 1000)
		for n := range l[i] {
			l[i][n] = api.Op{Kind: i, Val: uint32(n % 3)}
		}
	}
	picks := make([]api.Pick, 20000)
	for i := range picks {
		picks[i] = api.Pick{Thread: i % 9, Draw: uint32(i)}
	}
	want := expected(c, l, picks, counting)
	for name, begin := range ways(counting) {
		if x, e := Run(c, l, picks, begin); e != api.OK || !trial.Same(x, want) {
			t.Errorf("%s: %d steps, %d calls, %v", name, len(x.Steps), len(x.Calls), e)
		}
	}
	b := began{plan: counting}
	if x, e := Run(c, l, append(picks, api.Pick{}), b.begin); e != api.Arg || !trial.Same(x, api.Trace{}) {
		t.Errorf("20001 picks: %d steps, %v", len(x.Steps), e)
	}
	for i := range l {
		k := slices.Clone(l)
		k[i] = append(k[i], api.Op{})
		if x, e := Run(c, k, picks[:10], b.begin); e != api.Arg || !trial.Same(x, api.Trace{}) {
			t.Errorf("1001 calls of the thread %d: %+v, %v", i, x, e)
		}
	}
	if len(b.machines) != 0 {
		t.Errorf("%d calls began of a run that may not be", len(b.machines))
	}
}

// P3.1: all of a thread's calls are done, and no more.
func TestRunLast(t *testing.T) {
	c := api.Config{Kind: api.Ring, K: 1, T: 1, M: 2}
	l := [][]api.Op{make([]api.Op, 1000)}
	b := began{plan: counting}
	x, e := Run(c, l, make([]api.Pick, 1010), b.begin)
	if e != api.OK || len(x.Calls) != 1000 || len(x.Steps) != 1000 || len(b.machines) != 1000 || x.Calls[999].To != 999 {
		t.Errorf("%d calls, %d steps, %v", len(x.Calls), len(x.Steps), e)
	}
}

// P3.1: nothing, and Arg: the config may not be, or there are more or fewer lists than T; nothing begins.
func TestRunArg(t *testing.T) {
	b := began{plan: counting}
	one := []api.Op{{Kind: 1}}
	for _, c := range wrong() {
		lists := [][][]api.Op{nil, {one}, {one, one}}
		if c.T >= 0 && c.T < 1000 {
			lists = append(lists, slices.Repeat([][]api.Op{one}, c.T))
		}
		for _, l := range lists {
			if x, e := Run(c, l, trial.Picked(0, 0), b.begin); e != api.Arg || !trial.Same(x, api.Trace{}) {
				t.Errorf("%v, %d lists: %+v %v", c, len(l), x, e)
			}
		}
	}
	for _, c := range configs() {
		for _, n := range []int{0, 1, c.T - 1, c.T + 1, 2 * c.T, 100} {
			if n == c.T {
				continue
			}
			for _, l := range [][][]api.Op{make([][]api.Op, n), slices.Repeat([][]api.Op{one}, n)} {
				if x, e := Run(c, l, trial.Picked(0, 0), b.begin); e != api.Arg || !trial.Same(x, api.Trace{}) {
					t.Errorf("%v, %d lists: %+v %v", c, n, x, e)
				}
			}
		}
	}
	if len(b.machines) != 0 {
		t.Errorf("%d calls began of a run that may not be", len(b.machines))
	}
}

// roomy: the same list, with other elements in spare room behind it.
func roomy[E any](l []E, spare ...E) []E {
	return append(slices.Clone(l), spare...)[:len(l)]
}

// Rule 3: what is handed in isn't changed, its spare room neither; answers share nothing.
func TestRunOwn(t *testing.T) {
	c := api.Config{Kind: api.Queue, K: 2, T: 2, M: 3}
	op := api.Op{Kind: 77, Val: 78}
	l := roomy([][]api.Op{roomy([]api.Op{{Kind: 1, Val: 1}, {Kind: 2, Val: 2}}, op, op), roomy([]api.Op{{Kind: 3, Val: 1}}, op)}, []api.Op{op})
	picks := roomy(trial.Picked(0, 1, 1, 0, 0, 0), api.Pick{Thread: 1, Draw: 5}, api.Pick{Thread: 1, Draw: 6})
	want := expected(c, [][]api.Op{{{Kind: 1, Val: 1}, {Kind: 2, Val: 2}}, {{Kind: 3, Val: 1}}}, trial.Picked(0, 1, 1, 0, 0, 0), counting)
	for name, begin := range ways(counting) {
		for range 3 {
			x, e := Run(c, l, picks, begin)
			if e != api.OK || !trial.Same(x, want) {
				t.Fatalf("%s: %+v %v, not %+v", name, x, e, want)
			}
			scribble(x)
		}
	}
	for i, k := range [][]api.Op{{{Kind: 1, Val: 1}, {Kind: 2, Val: 2}, op, op}, {{Kind: 3, Val: 1}, op}, {op}} {
		if m := l[:3][i]; !slices.Equal(m[:len(k)], k) {
			t.Errorf("the calls %d were changed: %v, not %v", i, m[:len(k)], k)
		}
	}
	if k := append(trial.Picked(0, 1, 1, 0, 0, 0), api.Pick{Thread: 1, Draw: 5}, api.Pick{Thread: 1, Draw: 6}); !slices.Equal(picks[:8], k) {
		t.Errorf("the picks were changed: %v, not %v", picks[:8], k)
	}
}

// scribble changes all that an answer has, and its spare room.
func scribble(x api.Trace) {
	for i := range x.Steps[:cap(x.Steps)] {
		x.Steps[:cap(x.Steps)][i] = api.Step{Thread: 55}
	}
	for i := range x.Calls[:cap(x.Calls)] {
		x.Calls[:cap(x.Calls)][i] = api.Call{Thread: 55}
	}
	for _, l := range [][]uint64{x.End.Limbo, x.End.Pins, x.End.Link, x.End.Next, x.End.Slots} {
		for i := range l[:cap(l)] {
			l[:cap(l)][i] = 55
		}
	}
}

// Ways: of the calls that aren't over, those whose machines can be stopped are, once; no other one is.
func TestRunStops(t *testing.T) {
	c := api.Config{Kind: api.Queue, K: 2, T: 4, M: 3}
	ops := []api.Op{{Kind: 1, Val: 1}, {Kind: 1, Val: 1}}
	b := began{plan: counting}
	x, e := Run(c, [][]api.Op{ops, ops, ops, ops}, trial.Picked(0, 1, 2, 1, 0, 1), func(thread int, o api.Op, draw uint32) Machine {
		if m := b.begin(thread, o, draw); thread != 2 {
			return m
		} else {
			return unstopped{m}
		}
	})
	if e != api.OK || len(x.Calls) != 4 {
		t.Fatal(x, e)
	}
	for i, stops := range []int{0, 0, 0, 1} {
		if m := b.machines[i]; m.stops != stops || (x.Calls[i].To < 0) != (m.results == 0) {
			t.Errorf("the call %d: %+v", i, m)
		}
	}
}

// A machine that asks for nothing has no access that it could be over with: its call is begun, and never over, and nobody else is held up.
func TestRunAsksNothing(t *testing.T) {
	c := api.Config{Kind: api.Ring, K: 2, T: 2, M: 3}
	f := func(thread int, o api.Op, draw uint32, found []finding) (api.Access, bool, api.Code, uint32) {
		if thread == 0 {
			return api.Access{}, false, api.Full, 5
		}
		return counting(thread, o, draw, found)
	}
	l := [][]api.Op{{{Kind: 1}, {Kind: 2}}, {{Kind: 3}, {Kind: 4}}}
	want := expected(c, [][]api.Op{nil, l[1]}, trial.Picked(-1, 1, -1, 1), f)
	want.Calls = slices.Insert(want.Calls, 0, api.Call{Thread: 0, Kind: 1, From: 0, To: -1})
	for name, begin := range ways(f) {
		if x, e := Run(c, l, trial.Picked(0, 1, 0, 1), begin); e != api.OK || !trial.Same(x, want) {
			t.Errorf("%s: %+v %v, not %+v", name, x, e, want)
		}
	}
}

// unstoppable is a machine that panics when it is stopped.
type unstoppable struct{ unstopped }

func (m unstoppable) Stop() { panic("broken") }

// broken is a machine that asks for so many accesses, and panics once Next was called so often, or for its result.
type broken struct{ accesses, nexts int }

func (m *broken) Next(was uint64, done bool) (api.Access, bool) {
	if m.nexts == 0 {
		panic("broken")
	}
	m.nexts--
	m.accesses--
	return api.Access{Do: api.Read, Area: api.Epoch}, m.accesses >= 0
}

func (m *broken) Result() (api.Code, uint32) { panic("broken") }

// Rule 5: what begins a call, or a machine, is none, or panics: nothing, and Arg; what can be stopped is.
func TestRunBroken(t *testing.T) {
	c := api.Config{Kind: api.Ring, K: 2, T: 2, M: 3}
	l := [][]api.Op{{{Kind: 1, Val: 2}, {Kind: 2, Val: 2}}, {{Kind: 3, Val: 9}}}
	machines := map[string]func() Machine{
		"begin panics": func() Machine { panic("broken") },
		"no machine":   func() Machine { return nil },
		"first Next":   func() Machine { return &broken{} },
		"second Next":  func() Machine { return &broken{accesses: 2, nexts: 1} },
		"Result":       func() Machine { return &broken{accesses: 1, nexts: 2} },
	}
	for name, one := range machines {
		b := began{plan: counting}
		x, e := Run(c, l, trial.Picked(1, 0, 0, 0, 0), func(thread int, o api.Op, draw uint32) Machine {
			if thread == 0 {
				return one()
			}
			return b.begin(thread, o, draw)
		})
		if e != api.Arg || !trial.Same(x, api.Trace{}) {
			t.Errorf("%s: %+v %v", name, x, e)
		}
		if len(b.machines) != 1 || b.machines[0].stops != 1 {
			t.Errorf("%s: the other thread's machine wasn't stopped once: %+v", name, b.machines)
		}
	}
	unstoppable := func(int, api.Op, uint32) Machine {
		return unstoppable{unstopped{&planned{plan: counting, op: api.Op{Val: 9}}}}
	}
	if x, e := Run(c, l, trial.Picked(0), unstoppable); e != api.Arg || !trial.Same(x, api.Trace{}) {
		t.Errorf("a machine panics when it is stopped: %+v %v", x, e)
	}
	if x, e := Run(c, l, trial.Picked(0), nil); e != api.Arg || !trial.Same(x, api.Trace{}) {
		t.Errorf("nothing begins a call: %+v %v", x, e)
	}
	first, _ := store.New(c)
	if x, e := Run(c, l, trial.Picked(2), nil); e != api.OK || !trial.Same(x, api.Trace{End: first}) {
		t.Errorf("nothing begins a call, and none begins: %+v %v", x, e)
	}
}
