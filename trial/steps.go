package trial

import (
	"slices"

	"shunting/api"
	"shunting/store"
)

// Read is an access that reads.
func Read(area, at int) api.Access { return api.Access{Do: api.Read, Area: area, At: at} }

// Write is an access that writes w.
func Write(area, at int, w uint64) api.Access {
	return api.Access{Do: api.Write, Area: area, At: at, New: w}
}

// Swap is an access that swaps old for w.
func Swap(area, at int, old, w uint64) api.Access {
	return api.Access{Do: api.Swap, Area: area, At: at, Old: old, New: w}
}

// Did is the step of a thread that did a, and was told was and done.
func Did(thread int, a api.Access, was uint64, done bool) api.Step {
	return api.Step{Thread: thread, Access: a, Was: was, Done: done}
}

// Reads is the step of a thread that read was.
func Reads(thread, area, at int, was uint64) api.Step {
	return Did(thread, Read(area, at), was, false)
}

// Writes is the step of a thread that wrote w where was was.
func Writes(thread, area, at int, was, w uint64) api.Step {
	return Did(thread, Write(area, at, w), was, true)
}

// Swaps is the step of a thread that swapped old for w.
func Swaps(thread, area, at int, old, w uint64) api.Step {
	return Did(thread, Swap(area, at, old, w), old, true)
}

// Loses is the step of a thread that didn't swap old for w, as was was there.
func Loses(thread, area, at int, old, w, was uint64) api.Step {
	return Did(thread, Swap(area, at, old, w), was, false)
}

// Does are steps, as a part of a run's.
func Does(steps ...api.Step) []api.Step { return steps }

// Pinning are the steps of a thread that pins itself in an epoch, which doesn't go on meanwhile.
func Pinning(thread int, epoch uint64) []api.Step {
	return Does(Reads(thread, api.Epoch, 0, epoch), Writes(thread, api.Pin, thread, 0, epoch+1), Reads(thread, api.Epoch, 0, epoch))
}

// LettingGo is the step of a thread that was pinned in an epoch.
func LettingGo(thread int, epoch uint64) []api.Step {
	return Does(Writes(thread, api.Pin, thread, epoch+1, 0))
}

// Taking are the steps of a thread that takes a segment off a free list that is f, and goes on with l.
func Taking(thread int, f, l uint64) []api.Step {
	return Does(Reads(thread, api.Free, 0, f), Reads(thread, api.Link, int(f&Low)-1, l), Swaps(thread, api.Free, 0, f, f&^Low+1<<32|l&Low))
}

// Ran tells what is wrong with a trace, by its steps from the one of that number on; the words at the end must be those behind all steps. "" is nothing.
func Ran(c api.Config, x api.Trace, from int, parts ...[]api.Step) string {
	if len(x.Steps) < from || !slices.Equal(x.Steps[from:], slices.Concat(parts...)) {
		return "the steps"
	}
	if end, e := store.Replay(c, x.Steps); e != api.OK || !SameMem(x.End, end) {
		return "the words at the end"
	}
	return ""
}

// Onto does accesses to these words, by the thread 0, and keeps its steps.
func Onto(m *api.Mem) (do func(a api.Access) (was uint64, done bool), l *[]api.Step) {
	l = new([]api.Step)
	return func(a api.Access) (was uint64, done bool) {
		*m, was, done = store.Do(*m, a)
		*l = append(*l, Did(0, a, was, done))
		return was, done
	}, l
}

// Highs are some lives, each between the ones ahead of it and behind it, modulo 2^32, as high numbers.
func Highs() (l [][3]uint64) {
	for _, r := range []uint32{0, 1, 7, 1<<31 - 1, 1 << 31, Top - 1, Top} {
		l = append(l, [3]uint64{uint64(r-1) << 32, uint64(r) << 32, uint64(r+1) << 32})
	}
	return l
}

// Picked are picks of these threads, each with a draw of its own.
func Picked(threads ...int) (l []api.Pick) {
	for i, thread := range threads {
		l = append(l, api.Pick{Thread: thread, Draw: uint32(100 + i)})
	}
	return l
}

// Turns are picks of a thread, so many, then of another one, so many, and so on, each with a draw of its own.
func Turns(l ...int) []api.Pick {
	var threads []int
	for i := 0; i < len(l); i += 2 {
		threads = append(threads, slices.Repeat([]int{l[i]}, l[i+1])...)
	}
	return Picked(threads...)
}

// Drawn are turns, but all with this draw.
func Drawn(draw uint32, l ...int) []api.Pick {
	picks := Turns(l...)
	for i := range picks {
		picks[i].Draw = draw
	}
	return picks
}

// Bursts are n picks of threads that have turns for a while, each; now and then of none that there is.
func Bursts(next func(n int) int, threads, n int) (l []api.Pick) {
	for len(l) < n {
		p := api.Pick{Thread: next(threads*8+2)/8 - next(20)/19, Draw: uint32(next(1<<31)) * 3}
		for range 1 + next(1+next(25)) {
			l = append(l, p)
		}
	}
	return l[:n]
}

// Mixed are numbers that a short rule makes, each one below n.
func Mixed(seed uint64) func(n int) int {
	return func(n int) int {
		seed = seed*6364136223846793005 + 1442695040888963407
		return int(seed >> 33 % uint64(n))
	}
}
