package ring

import (
	"slices"
	"testing"

	"shunting/api"
	"shunting/slots"
	"shunting/store"
	"shunting/trial"
)

// onto is a call that does accesses to the words of a config at first, with Head, Tail and the first slots as they are told here, and its steps.
func onto(c api.Config, head, tail uint64, set ...uint64) (*slots.Call, *[]api.Step) {
	m, _ := store.New(c)
	m.Head, m.Tail = head, tail
	copy(m.Slots, set)
	do, l := trial.Onto(&m)
	return &slots.Call{Doer: do, Segments: c.M, Size: c.K}, l
}

// did holds steps against what was told of them.
func did(t *testing.T, l []api.Step, want ...api.Step) {
	t.Helper()
	if !slices.Equal(l, want) {
		t.Errorf("%+v, not %+v", l, want)
	}
}

// numbers are some of the segment 1 of 3, of a lap, by its high number; also such as are told modulo 2^32 alone.
func numbers(life uint64) []uint64 {
	lap := life >> 32
	return []uint64{lap*3 + 1, (lap+1<<32)*3 + 1, (lap+5<<32)*3 + 1}
}

// P8.1: a Put goes by the lap of Tail: just what is bare in that one is.
func TestPutLap(t *testing.T) {
	for _, r := range trial.Highs() {
		for _, n := range numbers(r[1]) {
			was := []uint64{r[2], r[1] | 6, r[0], r[1]}
			c, l := onto(ring(4, 1, 3), n, n, slices.Concat(slices.Repeat([]uint64{r[1]}, 4), was)...)
			if e := put(c, 8); e != api.OK {
				t.Errorf("%v", e)
			}
			did(t, *l, trial.Reads(0, api.Tail, 0, n),
				trial.Reads(0, api.Slot, 4, was[0]), trial.Reads(0, api.Slot, 5, was[1]), trial.Reads(0, api.Slot, 6, was[2]), trial.Reads(0, api.Slot, 7, was[3]),
				trial.Swaps(0, api.Slot, 7, r[1], r[1]|9))
		}
	}
}

// P8.1: a Put goes on from the last segment to the first one of the next lap.
func TestPutNextLap(t *testing.T) {
	for _, r := range trial.Highs() {
		for _, n := range numbers(r[1]) {
			c, l := onto(ring(1, 1, 3), n, n+1, r[2], r[1]|6, r[1]|7)
			if e := put(c, 8); e != api.OK {
				t.Errorf("%v", e)
			}
			did(t, *l, trial.Reads(0, api.Tail, 0, n+1), trial.Reads(0, api.Slot, 2, r[1]|7), trial.Reads(0, api.Head, 0, n), trial.Swaps(0, api.Tail, 0, n+1, n+2),
				trial.Reads(0, api.Tail, 0, n+2), trial.Reads(0, api.Slot, 0, r[2]), trial.Swaps(0, api.Slot, 0, r[2], r[2]|9))
		}
	}
}

// P8.1: a Put is Full from Head and M less 1 on, whatever the laps.
func TestFullLap(t *testing.T) {
	for _, r := range trial.Highs() {
		for _, n := range numbers(r[1]) {
			for less := range min(n+1, 4) {
				c, l := onto(ring(1, 1, 3), n-less, n, 0, r[1]|6, r[1])
				steps := trial.Does(trial.Reads(0, api.Tail, 0, n), trial.Reads(0, api.Slot, 1, r[1]|6), trial.Reads(0, api.Head, 0, n-less))
				want := api.Full
				if less < 2 {
					want = api.OK
					steps = append(steps, trial.Swaps(0, api.Tail, 0, n, n+1), trial.Reads(0, api.Tail, 0, n+1), trial.Reads(0, api.Slot, 2, r[1]), trial.Swaps(0, api.Slot, 2, r[1], r[1]|9))
				}
				if e := put(c, 8); e != want {
					t.Errorf("Head is %d less than %d: %v", less, n, e)
				}
				did(t, *l, steps...)
			}
		}
	}
}

// P8.1: a Get goes by the lap of Head: just what has a value in that one is got, and what is left there is the next lap's.
func TestGetLap(t *testing.T) {
	for _, r := range trial.Highs() {
		for _, n := range numbers(r[1]) {
			was := []uint64{r[2], r[2] | 6, r[0] | 7, r[1] | 9}
			c, l := onto(ring(4, 1, 3), n, n, slices.Concat(slices.Repeat([]uint64{r[1] | 4}, 4), was)...)
			if e, val := get(c); e != api.OK || val != 8 {
				t.Errorf("%v %d", e, val)
			}
			did(t, *l, trial.Reads(0, api.Head, 0, n),
				trial.Reads(0, api.Slot, 4, was[0]), trial.Reads(0, api.Slot, 5, was[1]), trial.Reads(0, api.Slot, 6, was[2]), trial.Reads(0, api.Slot, 7, was[3]),
				trial.Swaps(0, api.Slot, 7, r[1]|9, r[2]))
		}
	}
}

// P8.1: whether a Get looks twice, or goes on, hangs on what is bare in Head's lap; it goes on from the last segment to the first one of the next lap.
func TestEmptyLap(t *testing.T) {
	for _, r := range trial.Highs() {
		for _, n := range numbers(r[1]) {
			look := []api.Step{trial.Reads(0, api.Slot, 2, r[2]), trial.Reads(0, api.Slot, 3, r[1])}
			c, l := onto(ring(2, 1, 3), n, n+1, 0, 0, r[2], r[1])
			e, _ := get(c)
			did(t, *l, slices.Concat(trial.Does(trial.Reads(0, api.Head, 0, n)), look, look)...)
			c, l = onto(ring(2, 1, 3), n, n, 0, 0, r[2], r[2]|7)
			f, _ := get(c)
			did(t, *l, trial.Reads(0, api.Head, 0, n), trial.Reads(0, api.Slot, 2, r[2]), trial.Reads(0, api.Slot, 3, r[2]|7), trial.Reads(0, api.Tail, 0, n))
			if e != api.Empty || f != api.Empty {
				t.Errorf("%v, %v", e, f)
			}
			c, l = onto(ring(1, 1, 3), n+1, n+2, r[2]|9, 0, r[2])
			if e, val := get(c); e != api.OK || val != 8 {
				t.Errorf("%v %d", e, val)
			}
			did(t, *l, trial.Reads(0, api.Head, 0, n+1), trial.Reads(0, api.Slot, 2, r[2]), trial.Reads(0, api.Tail, 0, n+2), trial.Swaps(0, api.Head, 0, n+1, n+2),
				trial.Reads(0, api.Head, 0, n+2), trial.Reads(0, api.Slot, 0, r[2]|9), trial.Swaps(0, api.Slot, 0, r[2]|9, r[2]+1<<32))
		}
	}
}
