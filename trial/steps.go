package trial

import (
	"slices"

	"shunting/api"
)

// Read is an access that reads.
func Read(area, at int) api.Access { return api.Access{Do: api.Read, Area: area, At: at} }

// Write is an access that writes w.
func Write(area, at int, w uint64) api.Access {
	return api.Access{Do: api.Write, Area: area, At: at, New: w}
}

// Swap is an access that swaps old for w.
func Swap(area, at int, old, w uint64) api.Access {
	return api.Access{Do: api.Swap, Area: area, At: at, Old: old, New: w}
}

// Did is the step of a thread that did a, and was told was and done.
func Did(thread int, a api.Access, was uint64, done bool) api.Step {
	return api.Step{Thread: thread, Access: a, Was: was, Done: done}
}

// Reads is the step of a thread that read was.
func Reads(thread, area, at int, was uint64) api.Step {
	return Did(thread, Read(area, at), was, false)
}

// Writes is the step of a thread that wrote w where was was.
func Writes(thread, area, at int, was, w uint64) api.Step {
	return Did(thread, Write(area, at, w), was, true)
}

// Swaps is the step of a thread that swapped old for w.
func Swaps(thread, area, at int, old, w uint64) api.Step {
	return Did(thread, Swap(area, at, old, w), old, true)
}

// Loses is the step of a thread that didn't swap old for w, as was was there.
func Loses(thread, area, at int, old, w, was uint64) api.Step {
	return Did(thread, Swap(area, at, old, w), was, false)
}

// Picked are picks of these threads, each with a draw of its own.
func Picked(threads ...int) (l []api.Pick) {
	for i, thread := range threads {
		l = append(l, api.Pick{Thread: thread, Draw: uint32(100 + i)})
	}
	return l
}

// Turns are picks of a thread, so many, then of another one, so many, and so on, each with a draw of its own.
func Turns(l ...int) []api.Pick {
	var threads []int
	for i := 0; i < len(l); i += 2 {
		threads = append(threads, slices.Repeat([]int{l[i]}, l[i+1])...)
	}
	return Picked(threads...)
}

// Bursts are n picks of threads that have turns for a while, each; now and then of none that there is.
func Bursts(next func(n int) int, threads, n int) (l []api.Pick) {
	for len(l) < n {
		p := api.Pick{Thread: next(threads*8+2)/8 - next(20)/19, Draw: uint32(next(1<<31)) * 3}
		for range 1 + next(1+next(25)) {
			l = append(l, p)
		}
	}
	return l[:n]
}

// Mixed are numbers that a short rule makes, each one below n.
func Mixed(seed uint64) func(n int) int {
	return func(n int) int {
		seed = seed*6364136223846793005 + 1442695040888963407
		return int(seed >> 33 % uint64(n))
	}
}
