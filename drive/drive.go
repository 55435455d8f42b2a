// Package drive is layer 3: whose turn it is. See shared/doc/03-drive.md.
package drive

import (
	"slices"

	"shunting/api"
	"shunting/store"
)

// Machine asks for one access after the other, each time being told what the last one found and did; it is over when there are no more.
type Machine interface {
	Next(was uint64, done bool) (a api.Access, more bool)
	Result() (api.Code, uint32)
}

// stopper is a machine that can be stopped: it asks for nothing any more.
type stopper interface{ Stop() }

// course is a run that is on.
type course struct {
	begin   func(thread int, o api.Op, draw uint32) Machine
	threads []thread
	trace   api.Trace // up to now: its End are the words as they are
}

// thread is where a thread of a run stands.
type thread struct {
	left  []api.Op
	on    Machine    // its call's that is on; nil: none is
	call  int        // the number of that call
	asked api.Access // what that machine asks for, if there is more
	more  bool
}

// Run: a run of calls, each one's machine being made by begin. Arg (also if begin or a machine panics).
func Run(c api.Config, l [][]api.Op, picks []api.Pick, begin func(thread int, o api.Op, draw uint32) Machine) (out api.Trace, e api.Code) {
	if !may(c, l, picks) {
		return api.Trace{}, api.Arg
	}
	r := course{begin: begin, threads: make([]thread, len(l))}
	for i := range l {
		r.threads[i].left = l[i]
	}
	r.trace.End, _ = store.New(c)
	defer func() {
		if recover() != nil {
			out, e = api.Trace{}, api.Arg
		}
	}()
	defer r.stop()
	for _, p := range picks {
		r.turn(p)
	}
	return r.trace, api.OK
}

// may: can there be such a run?
func may[E any](c api.Config, l [][]E, picks []api.Pick) bool {
	long := func(calls []E) bool { return len(calls) > api.MaxOps }
	return store.May(c) && len(l) == c.T && !slices.ContainsFunc(l, long) && len(picks) <= api.MaxPicks
}

// turn does what a pick picks.
func (r *course) turn(p api.Pick) {
	if p.Thread < 0 || p.Thread >= len(r.threads) {
		return
	}
	t := &r.threads[p.Thread]
	if t.on == nil {
		if len(t.left) == 0 {
			return
		}
		r.start(t, p)
	}
	// A machine that asks for nothing from the beginning on has no last access that it could be over with.
	if t.more {
		r.step(t, p.Thread)
	}
}

// start begins a thread's first call that is left.
func (r *course) start(t *thread, p api.Pick) {
	o := t.left[0]
	t.left = t.left[1:]
	t.on = r.begin(p.Thread, o, p.Draw)
	t.call = len(r.trace.Calls)
	r.trace.Calls = append(r.trace.Calls, api.Call{Thread: p.Thread, Kind: o.Kind, Val: o.Val, From: len(r.trace.Steps), To: -1})
	t.asked, t.more = t.on.Next(0, false)
}

// step does the access that a thread's machine asks for, and tells the machine at once, since it may have been its last one.
func (r *course) step(t *thread, number int) {
	s := api.Step{Thread: number, Access: t.asked}
	r.trace.End, s.Was, s.Done = store.Do(r.trace.End, t.asked)
	r.trace.Steps = append(r.trace.Steps, s)
	t.asked, t.more = t.on.Next(s.Was, s.Done)
	if t.more {
		return
	}
	call := &r.trace.Calls[t.call]
	call.To = len(r.trace.Steps) - 1
	call.Code, call.Out = t.on.Result()
	t.on = nil
}

// stop stops the machines of the calls that aren't over, those that can be stopped.
func (r *course) stop() {
	for _, t := range r.threads {
		if s, ok := t.on.(stopper); ok {
			s.Stop()
		}
	}
}

// Raw: a run of accesses. Arg.
func Raw(c api.Config, l [][]api.Access, picks []api.Pick) (api.Trace, api.Code) {
	// Asked here, too, lest calls are made of more accesses than may be.
	if !may(c, l, picks) {
		return api.Trace{}, api.Arg
	}
	calls := make([][]api.Op, len(l))
	for i := range l {
		calls[i] = make([]api.Op, len(l[i]))
	}
	left := slices.Clone(l)
	return Run(c, calls, picks, func(thread int, _ api.Op, _ uint32) Machine {
		a := left[thread][0]
		left[thread] = left[thread][1:]
		return single(a)
	})
}

// single: the machine of one access; its number is 1, if something was put there.
func single(a api.Access) Machine {
	return Proc(func(do func(a api.Access) (was uint64, done bool)) (api.Code, uint32) {
		if _, done := do(a); done {
			return api.OK, 1
		}
		return api.OK, 0
	})
}
