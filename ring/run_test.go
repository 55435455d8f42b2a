package ring

import (
	"testing"

	"shunting/api"
	"shunting/drive"
	"shunting/trial"
)

// place is a machine that stands in a Put or a Get at a line, as the chapter numbers it.
type place struct {
	o              api.Op
	segments, size uint64
	draw           uint32
	line           string   // "": ahead of the first one
	n              uint64   // Tail, or Head, by the chapter's letters n and h
	nth            uint64   // of its slots
	was            uint64   // what it read of that one
	seen           []uint64 // what is remembered of them
	code           api.Code
	out            uint32
}

// over is the line behind the last one.
const over = "over"

// begun is the machine of a call of a config, as the chapters' lines tell it.
func begun(c api.Config) func(thread int, o api.Op, draw uint32) drive.Machine {
	return func(_ int, o api.Op, draw uint32) drive.Machine {
		if o.Kind == api.Collect {
			return trial.Collects(c.T)
		}
		return &place{o: o, segments: uint64(c.M), size: uint64(c.K), draw: draw}
	}
}

// Next goes on to the next line, by what the access of the last one was told.
func (p *place) Next(was uint64, done bool) (api.Access, bool) {
	switch {
	case p.line == "" && p.o.Kind == api.Put:
		p.line = "put 1"
	case p.line == "":
		p.line = "get 1"
	case p.o.Kind == api.Put:
		p.line = p.puts(was, done)
	default:
		p.line = p.gets(was, done)
	}
	return p.asks(), p.line != over
}

func (p *place) Result() (api.Code, uint32) { return p.code, p.out }

// ends is the line behind a call that comes out so.
func (p *place) ends(code api.Code, out uint32) string {
	p.code, p.out = code, out
	return over
}

// bare is its lap's bare word.
func (p *place) bare() uint64 { return p.n / p.segments << 32 }

// asks is the access that the line tells.
func (p *place) asks() api.Access {
	at := int(p.n%p.segments*p.size + (uint64(p.draw)+p.nth)%p.size)
	switch p.line {
	case "put 1", "get 4":
		return trial.Read(api.Tail, 0)
	case "put 3", "get 1":
		return trial.Read(api.Head, 0)
	case "put 2", "get 2", "get 3":
		return trial.Read(api.Slot, at)
	case "put 2: swap":
		return trial.Swap(api.Slot, at, p.bare(), p.bare()|uint64(p.o.Val)+1)
	case "put 4":
		return trial.Swap(api.Tail, 0, p.n, p.n+1)
	case "get 2: swap", "get 3: swap":
		return trial.Swap(api.Slot, at, p.was, p.bare()+1<<32)
	case "get 5":
		return trial.Swap(api.Head, 0, p.n, p.n+1)
	}
	return api.Access{}
}

// puts is the line behind one of a Put's.
func (p *place) puts(was uint64, done bool) string {
	switch p.line {
	case "put 1":
		p.n, p.nth = was, 0
		return "put 2"
	case "put 2":
		if was == p.bare() {
			return "put 2: swap"
		}
		return p.further("put 2", "put 3")
	case "put 2: swap":
		if done {
			return p.ends(api.OK, 0)
		}
		return p.further("put 2", "put 3")
	case "put 3":
		if p.n+1 >= was+p.segments {
			return p.ends(api.Full, 0)
		}
		return "put 4"
	}
	return "put 1"
}

// further is the line for the next one of its slots, or the one behind them.
func (p *place) further(line, behind string) string {
	if p.nth++; p.nth < p.size {
		return line
	}
	p.nth = 0
	return behind
}

// gets is the line behind one of a Get's.
func (p *place) gets(was uint64, done bool) string {
	value := was>>32 == p.bare()>>32 && was&trial.Low != 0
	switch p.line {
	case "get 1":
		p.n, p.nth, p.seen = was, 0, make([]uint64, p.size)
		return "get 2"
	case "get 2":
		p.was = was
		if value {
			return "get 2: swap"
		}
		return p.remembers(was)
	case "get 2: swap":
		if done {
			return p.ends(api.OK, uint32(p.was&trial.Low-1))
		}
		return p.remembers(was)
	case "get 3":
		p.was = was
		if value {
			return "get 3: swap"
		}
		if was == p.seen[p.nth] {
			line := p.further("get 3", over)
			if line == over {
				return p.ends(api.Empty, 0)
			}
			return line
		}
	case "get 3: swap":
		if done {
			return p.ends(api.OK, uint32(p.was&trial.Low-1))
		}
	case "get 4":
		if was == p.n {
			return p.ends(api.Empty, 0)
		}
		return "get 5"
	}
	return "get 1"
}

// remembers is the line behind one of a Get's first look.
func (p *place) remembers(was uint64) string {
	p.seen[p.nth] = was
	line := p.further("get 2", "get 4")
	for _, w := range p.seen {
		if line == "get 4" && w == p.bare() {
			return "get 3"
		}
	}
	return line
}

// expected is the run that the chapters tell.
func expected(c api.Config, l [][]api.Op, picks []api.Pick) api.Trace {
	x, _ := drive.Run(c, l, picks, begun(c))
	return x
}

// P8.1 and P8.2: runs of any calls, whatever is picked.
func TestRunMixed(t *testing.T) {
	next := trial.Mixed(18)
	n := map[string]int{}
	for _, size := range []int{1, 2, 3, 5} {
		for _, threads := range []int{1, 2, 3, 5, 8} {
			for i := range 150 {
				c := ring(size, threads, 2+next(6))
				l, picks := trial.AnyCalls(next, threads), trial.Bursts(next, threads, i*5)
				x, e := Run(c, l, picks)
				if want := expected(c, l, picks); e != api.OK || !trial.Same(x, want) {
					t.Fatalf("%v %v %v: %+v %v, not %+v", c, l, picks, x, e, want)
				}
				trial.Counts(n, x)
				if x.End.Tail >= 2*uint64(c.M) {
					n["a third lap"]++
				}
			}
		}
	}
	for _, what := range []string{
		"a lost race for slot", "a lost race for head", "a lost race for tail", "a lost race for epoch",
		"nothing to get", "no room", "a call that isn't over", "a third lap",
	} {
		if n[what] < 20 {
			t.Errorf("%s: just %d times", what, n[what])
		}
	}
}

// P8.2: as many slots, threads, segments, calls and picks as may be.
func TestMost(t *testing.T) {
	next := trial.Mixed(19)
	c := ring(api.MaxK, api.MaxT, api.MaxM)
	l := make([][]api.Op, c.T)
	for i := range l {
		for range api.MaxOps {
			kinds := []int{api.Put, api.Put, api.Get}
			l[i] = append(l[i], api.Op{Kind: kinds[next(3)], Val: uint32(next(1 << 31))})
		}
	}
	picks := trial.Bursts(next, c.T, api.MaxPicks)
	if x, e := Run(c, l, picks); e != api.OK || !trial.Same(x, expected(c, l, picks)) {
		t.Errorf("%d steps, %d calls, %v", len(x.Steps), len(x.Calls), e)
	}
}
