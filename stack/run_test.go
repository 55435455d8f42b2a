package stack

import (
	"testing"

	"shunting/api"
	"shunting/drive"
	"shunting/trial"
)

// place is a machine that stands in a Put or a Get at a line, as the chapter numbers it; what layers 4 and 5 tell is gone through by lines of theirs.
type place struct {
	o            api.Op
	thread, size int
	draw         uint32
	line         string       // "": ahead of the first one
	in           *trial.Lines // what it is in the midst of
	s, n, m      uint64       // by the chapter's letters; m: 0, if it holds none
	nth          int          // of its slots
	was          uint64       // what it read of that one
	code         api.Code
	out          uint32
}

// over is the line behind the last one.
const over = "over"

// begun is the machine of a call of a config, as the chapters' lines tell it.
func begun(c api.Config) func(thread int, o api.Op, draw uint32) drive.Machine {
	return func(thread int, o api.Op, draw uint32) drive.Machine {
		if o.Kind == api.Collect {
			return trial.Collects(c.T)
		}
		return &place{o: o, thread: thread, size: c.K, draw: draw}
	}
}

// Next goes on to the next line, by what the access of the last one was told.
func (p *place) Next(was uint64, done bool) (api.Access, bool) {
	switch {
	case p.line == "":
		p.line = "hold"
	case p.in == nil && p.o.Kind == api.Put:
		p.line = p.puts(was, done)
	case p.in == nil:
		p.line = p.gets(was, done)
	default:
		if a, more := p.in.Next(was, done); more {
			return a, true
		}
		p.line = p.leaves()
	}
	if p.in = p.enters(); p.in != nil {
		return p.in.Next(0, false)
	}
	return p.asks(), p.line != over
}

func (p *place) Result() (api.Code, uint32) { return p.code, p.out }

// enters are the lines of another layer that the line tells.
func (p *place) enters() *trial.Lines {
	switch p.line {
	case "hold":
		return trial.Holds(p.thread)
	case "put 4: take":
		return trial.Takes()
	case "put 10: give":
		return trial.Gives(p.m)
	case "get 6: retire":
		return trial.Retires(p.s)
	case "drop":
		return trial.Drops(p.thread)
	}
	return nil
}

// leaves is the line behind such lines.
func (p *place) leaves() string {
	switch p.line {
	case "hold":
		if p.o.Kind == api.Put {
			return "put 2"
		}
		return "get 2"
	case "put 4: take":
		if p.m = p.in.Taken(); p.m == 0 {
			return p.ends(api.NoMem, 0)
		}
		return "put 4: slot"
	case "put 10: give":
		return "drop"
	case "get 6: retire":
		return "get 2"
	}
	return over
}

// ends is the line by which a call ends.
func (p *place) ends(code api.Code, out uint32) string {
	p.code, p.out = code, out
	if p.m != 0 {
		return "put 10: slot"
	}
	return "drop"
}

// at is the place of a segment's slot.
func (p *place) at(s uint64, nth int) int {
	return (int(s&trial.Low)-1)*p.size + int((uint64(p.draw)+uint64(nth))%uint64(p.size))
}

// asks is the access that a line of this layer tells.
func (p *place) asks() api.Access {
	life := p.s &^ trial.Low
	switch p.line {
	case "put 2", "get 2":
		return trial.Read(api.Head, 0)
	case "put 3", "get 3", "get 4":
		return trial.Read(api.Slot, p.at(p.s, p.nth))
	case "put 3: swap":
		return trial.Swap(api.Slot, p.at(p.s, p.nth), life, life|uint64(p.o.Val)+1)
	case "put 4: slot":
		return trial.Write(api.Slot, p.at(p.m, 0), p.m&^trial.Low|uint64(p.o.Val)+1)
	case "put 5":
		return trial.Write(api.Next, int(p.m&trial.Low)-1, p.s)
	case "put 6":
		return trial.Swap(api.Head, 0, p.s, p.m)
	case "put 10: slot":
		return trial.Write(api.Slot, p.at(p.m, 0), p.m&^trial.Low)
	case "get 3: swap", "get 4: swap":
		return trial.Swap(api.Slot, p.at(p.s, p.nth), p.was, life+1<<32)
	case "get 4: spend":
		return trial.Swap(api.Slot, p.at(p.s, p.nth), life, life+1<<32)
	case "get 5":
		return trial.Read(api.Next, int(p.s&trial.Low)-1)
	case "get 6":
		return trial.Swap(api.Head, 0, p.s, p.n)
	}
	return api.Access{}
}

// puts is the line behind one of a Put's own.
func (p *place) puts(was uint64, done bool) string {
	switch p.line {
	case "put 2":
		p.s, p.nth = was, 0
		if was&trial.Low != 0 {
			return "put 3"
		}
		return p.lays()
	case "put 3":
		if was == p.s&^trial.Low {
			return "put 3: swap"
		}
		if p.further() {
			return "put 3"
		}
		return p.lays()
	case "put 3: swap":
		if done {
			return p.ends(api.OK, 0)
		}
		if p.further() {
			return "put 3"
		}
		return p.lays()
	case "put 4: slot":
		return "put 5"
	case "put 5":
		return "put 6"
	case "put 6":
		if done {
			p.m = 0
			return p.ends(api.OK, 0)
		}
	case "put 10: slot":
		return "put 10: give"
	}
	return "put 2"
}

// lays is the line from which a segment is laid on top.
func (p *place) lays() string {
	if p.m != 0 {
		return "put 5"
	}
	return "put 4: take"
}

// further goes on to the next one of its slots; behind the last one to the first one again, being false.
func (p *place) further() bool {
	p.nth = (p.nth + 1) % p.size
	return p.nth > 0
}

// gets is the line behind one of a Get's own.
func (p *place) gets(was uint64, done bool) string {
	value := was>>32 == p.s>>32 && was&trial.Low != 0
	switch p.line {
	case "get 2":
		p.s, p.nth = was, 0
		if was&trial.Low == 0 {
			return p.ends(api.Empty, 0)
		}
		return "get 3"
	case "get 3":
		p.was = was
		if value {
			return "get 3: swap"
		}
		return p.further3()
	case "get 3: swap":
		if done {
			return p.ends(api.OK, uint32(p.was&trial.Low-1))
		}
		return p.further3()
	case "get 4":
		p.was = was
		if value {
			return "get 4: swap"
		}
		if was == p.s&^trial.Low {
			return "get 4: spend"
		}
		return p.further4()
	case "get 4: swap":
		if done {
			return p.ends(api.OK, uint32(p.was&trial.Low-1))
		}
		return p.further4()
	case "get 4: spend":
		if done {
			return p.further4()
		}
		return "get 4"
	case "get 5":
		p.n = was
		return "get 6"
	case "get 6":
		if done {
			return "get 6: retire"
		}
	}
	return "get 2"
}

// further3 and further4 are the lines behind a slot of the first look, and of the second one.
func (p *place) further3() string {
	if p.further() {
		return "get 3"
	}
	return "get 4"
}

func (p *place) further4() string {
	if p.further() {
		return "get 4"
	}
	return "get 5"
}

// expected is the run that the chapters tell.
func expected(c api.Config, l [][]api.Op, picks []api.Pick) api.Trace {
	x, _ := drive.Run(c, l, picks, begun(c))
	return x
}

// spends counts the slots that were spent bare, and the races for them that were lost.
func spends(n map[string]int, x api.Trace) {
	for _, s := range x.Steps {
		a := s.Access
		switch {
		case a.Do != api.Swap || a.Area != api.Slot || a.Old&trial.Low != 0 || a.New&trial.Low != 0:
		case s.Done:
			n["a bare slot spent"]++
		case s.Was&trial.Low != 0:
			n["a bare slot lost to a value"]++
		default:
			n["a bare slot lost to another Get"]++
		}
	}
}

// P7.1 and P7.2: runs of any calls, whatever is picked.
func TestRunMixed(t *testing.T) {
	next := trial.Mixed(14)
	n := map[string]int{}
	for _, size := range []int{1, 2, 3, 5} {
		for _, threads := range []int{1, 2, 3, 5, 8} {
			for i := range 150 {
				c := pile(size, threads, 2+next(8))
				l, picks := trial.AnyCalls(next, threads), trial.Bursts(next, threads, i*5)
				x, e := Run(c, l, picks)
				if want := expected(c, l, picks); e != api.OK || !trial.Same(x, want) {
					t.Fatalf("%v %v %v: %+v %v, not %+v", c, l, picks, x, e, want)
				}
				if s := trial.Looks(c, x); s >= 0 {
					t.Fatalf("%v %v %v: %+v, of a segment that is free", c, l, picks, x.Steps[s])
				}
				trial.Counts(n, x)
				spends(n, x)
			}
		}
	}
	for _, what := range []string{
		"a lost race for slot", "a lost race for head", "a lost race for free", "a lost race for limbo", "a lost race for epoch",
		"a segment given back", "a segment linked anew", "nothing to get", "no segment", "a call that isn't over",
		"a bare slot spent", "a bare slot lost to a value", "a bare slot lost to another Get",
	} {
		if n[what] < 20 {
			t.Errorf("%s: just %d times", what, n[what])
		}
	}
}

// P7.2: as many slots, threads, segments, calls and picks as may be.
func TestMost(t *testing.T) {
	next := trial.Mixed(15)
	c := pile(api.MaxK, api.MaxT, api.MaxM)
	l := make([][]api.Op, c.T)
	for i := range l {
		for range api.MaxOps {
			kinds := []int{api.Put, api.Put, api.Get}
			l[i] = append(l[i], api.Op{Kind: kinds[next(3)], Val: uint32(next(1 << 31))})
		}
	}
	picks := trial.Bursts(next, c.T, api.MaxPicks)
	if x, e := Run(c, l, picks); e != api.OK || !trial.Same(x, expected(c, l, picks)) {
		t.Errorf("%d steps, %d calls, %v", len(x.Steps), len(x.Calls), e)
	}
}
