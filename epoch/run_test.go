package epoch

import (
	"testing"

	"shunting/api"
	"shunting/drive"
	"shunting/trial"
)

// place is a machine that stands in a call at a line, as the chapters number it. A chain's lines and a Give's are gone through in the midst of others.
type place struct {
	thread, threads int
	line            string // "": ahead of the first one
	first           string
	ref             uint64 // of what is retired
	e, g, w, l, f   uint64 // what was read last, by the chapters' letters
	pin             int    // whose pin is read next
	low             uint64 // where a chain stands
	behind          string // the line behind the chain
}

// over is the line behind the last one.
const over = "over"

// least is a word's low number.
const least = 1<<32 - 1

// begun is the machine of a call of a config.
func begun(c api.Config) func(thread int, o api.Op, draw uint32) drive.Machine {
	return func(thread int, o api.Op, _ uint32) drive.Machine {
		first := map[int]string{api.Hold: "hold 1", api.Drop: "drop 1", api.Retire: "retire 1", api.Collect: "collect 1"}
		return &place{thread: thread, threads: c.T, first: first[o.Kind], ref: uint64(o.Val)%uint64(c.M) + 1}
	}
}

// Next goes on to the next line, by what the access of the last one was told.
func (p *place) Next(was uint64, done bool) (api.Access, bool) {
	switch {
	case p.line == "":
		p.line = p.first
	case p.line[:4] == "give" || p.line[:5] == "chain":
		p.line = p.frees(was, done)
	default:
		p.line = p.hears(was, done)
	}
	return p.asks(), p.line != over
}

func (p *place) Result() (api.Code, uint32) { return api.OK, 0 }

// asks is the access that the line tells.
func (p *place) asks() api.Access {
	switch p.line {
	case "hold 1", "hold 3", "retire 1", "collect 1", "collect 4":
		return trial.Read(api.Epoch, 0)
	case "hold 2":
		return trial.Write(api.Pin, p.thread, p.e+1)
	case "drop 1":
		return trial.Write(api.Pin, p.thread, 0)
	case "retire 2":
		return trial.Read(api.Limbo, int(p.g%3))
	case "retire 3":
		return trial.Swap(api.Limbo, int(p.g%3), p.w, p.w&^least)
	case "retire 4":
		return trial.Write(api.Link, int(p.ref&least)-1, p.ref&^least+1<<32|p.w&least)
	case "retire 5":
		return trial.Swap(api.Limbo, int(p.g%3), p.w, p.g<<32|p.ref&least)
	case "collect 2":
		return trial.Read(api.Pin, p.pin)
	case "collect 3":
		return trial.Swap(api.Epoch, 0, p.g, p.g+1)
	case "collect 5":
		return trial.Read(api.Limbo, int((p.g+1)%3))
	case "collect 6":
		return trial.Swap(api.Limbo, int((p.g+1)%3), p.w, p.w&^least)
	case "chain 1":
		return trial.Read(api.Link, int(p.low)-1)
	case "give 1":
		return trial.Read(api.Free, 0)
	case "give 2":
		return trial.Write(api.Link, int(p.low)-1, p.l&^least|p.f&least)
	case "give 3":
		return trial.Swap(api.Free, 0, p.f, p.f&^least+1<<32|p.low)
	}
	return api.Access{}
}

// hears is the line behind one of a call's own.
func (p *place) hears(was uint64, done bool) string {
	switch p.line {
	case "hold 1":
		p.e = was
		return "hold 2"
	case "hold 2":
		return "hold 3"
	case "hold 3":
		if was != p.e {
			p.e = was
			return "hold 2"
		}
	case "retire 1":
		p.g = was
		return "retire 2"
	case "retire 2":
		p.w = was
		if was&least != 0 && was>>32 != p.g&least {
			return "retire 3"
		}
		return "retire 4"
	case "retire 3":
		return p.chain(done, "retire 2")
	case "retire 4":
		return "retire 5"
	case "retire 5":
		if !done {
			return "retire 2"
		}
	case "collect 1":
		p.g = was
		return "collect 2"
	case "collect 2":
		p.pin++
		if was != 0 && was != p.g+1 {
			return "collect 4"
		}
		if p.pin == p.threads {
			return "collect 3"
		}
		return "collect 2"
	case "collect 3":
		return "collect 4"
	case "collect 4":
		p.g = was
		return "collect 5"
	case "collect 5":
		p.w = was
		if was&least != 0 && was>>32+2 <= p.g {
			return "collect 6"
		}
	case "collect 6":
		return p.chain(done, over)
	}
	return over
}

// chain is the line by which w's chain is freed, if it was had; else, or when it is freed, behind comes.
func (p *place) chain(had bool, behind string) string {
	p.low, p.behind = p.w&least, behind
	if had {
		return "chain 1"
	}
	return behind
}

// frees is the line behind one of a chain's.
func (p *place) frees(was uint64, done bool) string {
	switch p.line {
	case "chain 1":
		p.l = was
		return "give 1"
	case "give 1":
		p.f = was
		return "give 2"
	case "give 2":
		return "give 3"
	}
	if !done {
		return "give 1"
	}
	p.low = p.l & least
	if p.low == 0 {
		return p.behind
	}
	return "chain 1"
}

// expected is the run that the chapters tell.
func expected(c api.Config, l [][]api.Op, picks []api.Pick) api.Trace {
	x, _ := drive.Run(c, l, picks, begun(c))
	return x
}

// bursts are picks of threads that have turns for a while, each.
func bursts(next func(n int) int, threads, n int) (l []api.Pick) {
	for len(l) < n {
		p := api.Pick{Thread: next(threads*8+2)/8 - next(20)/19, Draw: uint32(next(1 << 31))}
		for range 1 + next(1+next(25)) {
			l = append(l, p)
		}
	}
	return l[:n]
}

// anyCalls are calls, of each thread some, of all kinds; most often those that tell a lot come one behind the other.
func anyCalls(next func(n int) int, threads int) [][]api.Op {
	l := make([][]api.Op, threads)
	kinds := []int{api.Hold, api.Drop, api.Retire, api.Retire, api.Collect, api.Collect, api.Collect}
	for i := range l {
		for range next(25) {
			l[i] = append(l[i], api.Op{Kind: kinds[next(len(kinds))], Val: uint32(next(1<<31))*2 + uint32(next(2))})
		}
	}
	return l
}

// lost counts, by their areas, swaps that weren't put.
func lost(n map[int]int, x api.Trace) {
	for _, s := range x.Steps {
		if s.Access.Do == api.Swap && !s.Done {
			n[s.Access.Area]++
		}
	}
}

// P5.1 and P5.2: runs of all kinds, of any calls, also such as retire what is in limbo or free.
func TestRunMixed(t *testing.T) {
	next := trial.Mixed(6)
	losses := map[int]int{}
	for _, kind := range []int{api.Queue, api.Ring, api.Stack} {
		for _, threads := range []int{1, 2, 3, 8} {
			for n := range 150 {
				c := api.Config{Kind: kind, K: 1 + next(3), T: threads, M: 2 + next(8)}
				l, picks := anyCalls(next, threads), bursts(next, threads, n*4)
				x, e := Run(c, l, picks)
				if want := expected(c, l, picks); e != api.OK || !trial.Same(x, want) {
					t.Fatalf("%v %v %v: %+v %v, not %+v", c, l, picks, x, e, want)
				}
				lost(losses, x)
			}
		}
	}
	for _, area := range []int{api.Epoch, api.Free, api.Limbo} {
		if losses[area] < 50 {
			t.Errorf("just %d races for the area %d were lost", losses[area], area)
		}
	}
}

// P5.2: as many threads, segments, calls and picks as may be.
func TestMost(t *testing.T) {
	next := trial.Mixed(7)
	c := api.Config{Kind: api.Stack, K: api.MaxK, T: api.MaxT, M: api.MaxM}
	l := make([][]api.Op, c.T)
	for i := range l {
		for n := range api.MaxOps {
			kinds := []int{api.Hold, api.Retire, api.Drop, api.Collect}
			l[i] = append(l[i], api.Op{Kind: kinds[n%4], Val: uint32(next(1 << 31))})
		}
	}
	picks := bursts(next, c.T, api.MaxPicks)
	if x, e := Run(c, l, picks); e != api.OK || !trial.Same(x, expected(c, l, picks)) {
		t.Errorf("%d steps, %d calls, %v", len(x.Steps), len(x.Calls), e)
	}
}

// P5.2 and rule 5: what is retired twice may lead to itself, and so may the free list then: a call that frees it goes on as long as it is picked, and the run ends.
func TestRound(t *testing.T) {
	c := ring(1, 2)
	twice := []api.Op{retire(1), retire(1), collect(), collect()}
	l, picks := [][]api.Op{append(twice, twice...)}, turns(0, api.MaxPicks)
	x, e := Run(c, l, picks)
	if e != api.OK || len(x.Steps) != api.MaxPicks || len(x.Calls) < 7 || x.Calls[len(x.Calls)-1].To != -1 || !trial.Same(x, expected(c, l, picks)) {
		t.Errorf("%d steps, %d calls, %v", len(x.Steps), len(x.Calls), e)
	}
}
