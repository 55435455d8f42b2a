package stack

import (
	"slices"
	"testing"

	"shunting/api"
	"shunting/slots"
	"shunting/store"
	"shunting/trial"
)

// onto is a call that does accesses to these words, by the thread 0, and its steps.
func onto(m *api.Mem, size, first int) (*slots.Call, *[]api.Step) {
	do, l := trial.Onto(m)
	return &slots.Call{Doer: do, Size: size, First: first}, l
}

// did holds steps against what was told of them.
func did(t *testing.T, l []api.Step, parts ...[]api.Step) {
	t.Helper()
	if want := slices.Concat(parts...); !slices.Equal(l, want) {
		t.Errorf("%+v, not %+v", l, want)
	}
}

// P7.1: a Put goes by the life of Head's reference: just what is bare in that life is.
func TestPutLife(t *testing.T) {
	for _, r := range trial.Highs() {
		m, _ := store.New(pile(4, 1, 3))
		m.Head = r[1] | 2
		was := []uint64{r[2], r[1] | 6, r[0], r[1]}
		copy(m.Slots[4:], was)
		c, l := onto(&m, 4, 0)
		if e := put(c, 8); e != api.OK {
			t.Errorf("%v", e)
		}
		did(t, *l, trial.Pinning(0, 0), trial.Does(trial.Reads(0, api.Head, 0, r[1]|2),
			trial.Reads(0, api.Slot, 4, was[0]), trial.Reads(0, api.Slot, 5, was[1]), trial.Reads(0, api.Slot, 6, was[2]), trial.Reads(0, api.Slot, 7, was[3]),
			trial.Swaps(0, api.Slot, 7, r[1], r[1]|9)), trial.LettingGo(0, 0))
	}
}

// P7.1: a Get goes by the life of Head's reference: just what has a value in that life is got, and what is left there is the next life's.
func TestGetLife(t *testing.T) {
	for _, r := range trial.Highs() {
		m, _ := store.New(pile(4, 1, 3))
		m.Head = r[1] | 3
		was := []uint64{r[2], r[2] | 6, r[0] | 7, r[1] | 9}
		copy(m.Slots[8:], was)
		c, l := onto(&m, 4, 0)
		if e, val := get(c); e != api.OK || val != 8 {
			t.Errorf("%v %d", e, val)
		}
		did(t, *l, trial.Pinning(0, 0), trial.Does(trial.Reads(0, api.Head, 0, r[1]|3),
			trial.Reads(0, api.Slot, 8, was[0]), trial.Reads(0, api.Slot, 9, was[1]), trial.Reads(0, api.Slot, 10, was[2]), trial.Reads(0, api.Slot, 11, was[3]),
			trial.Swaps(0, api.Slot, 11, r[1]|9, r[2])), trial.LettingGo(0, 0))
	}
}

// P7.1: what is bare in Head's life, and just that, is spent in the second look, and the segment is retired with its next life; one that is taken off below another one leads to that.
func TestSpentLife(t *testing.T) {
	for _, r := range trial.Highs() {
		m, _ := store.New(pile(4, 1, 3))
		m.Head, m.Next[1] = r[1]|2, 9<<32
		was := []uint64{r[2], r[1], r[0], r[0] | 7}
		copy(m.Slots[4:], was)
		c, l := onto(&m, 4, 1)
		if e, val := get(c); e != api.Empty || val != 0 {
			t.Errorf("%v %d", e, val)
		}
		did(t, *l, trial.Pinning(0, 0), trial.Does(trial.Reads(0, api.Head, 0, r[1]|2),
			trial.Reads(0, api.Slot, 5, was[1]), trial.Reads(0, api.Slot, 6, was[2]), trial.Reads(0, api.Slot, 7, was[3]), trial.Reads(0, api.Slot, 4, was[0]),
			trial.Reads(0, api.Slot, 5, was[1]), trial.Swaps(0, api.Slot, 5, r[1], r[2]), trial.Reads(0, api.Slot, 6, was[2]), trial.Reads(0, api.Slot, 7, was[3]), trial.Reads(0, api.Slot, 4, was[0]),
			trial.Reads(0, api.Next, 1, 9<<32), trial.Swaps(0, api.Head, 0, r[1]|2, 9<<32),
			trial.Reads(0, api.Epoch, 0, 0), trial.Reads(0, api.Limbo, 0, 0), trial.Writes(0, api.Link, 1, 3, r[2]), trial.Swaps(0, api.Limbo, 0, 0, 2),
			trial.Reads(0, api.Head, 0, 9<<32)), trial.LettingGo(0, 0))
	}
}

// P7.1: a segment that is taken has the life that its link kept: by that it is filled and laid on top; what it had as Next is gone.
func TestTakenLife(t *testing.T) {
	for _, r := range trial.Highs() {
		m, _ := store.New(pile(2, 1, 3))
		m.Head, m.Slots[0], m.Slots[1], m.Slots[4], m.Slots[5] = r[0]|1, r[1], r[1], r[1], r[1]
		m.Free, m.Link[2], m.Next[2] = trial.Top<<32|3, r[1]|2, 9
		c, l := onto(&m, 2, 1)
		if e := put(c, 4); e != api.OK {
			t.Errorf("%v", e)
		}
		did(t, *l, trial.Pinning(0, 0), trial.Does(trial.Reads(0, api.Head, 0, r[0]|1), trial.Reads(0, api.Slot, 1, r[1]), trial.Reads(0, api.Slot, 0, r[1]),
			trial.Reads(0, api.Free, 0, trial.Top<<32|3), trial.Reads(0, api.Link, 2, r[1]|2), trial.Swaps(0, api.Free, 0, trial.Top<<32|3, 2),
			trial.Writes(0, api.Slot, 5, r[1], r[1]|5), trial.Writes(0, api.Next, 2, 9, r[0]|1), trial.Swaps(0, api.Head, 0, r[0]|1, r[1]|3)), trial.LettingGo(0, 0))
	}
}

// P7.1: a segment that is given back has the life that it had when it was taken, and its slot is bare in it.
func TestGivenLife(t *testing.T) {
	for _, r := range trial.Highs() {
		m, _ := store.New(pile(2, 1, 3))
		m.Slots[4], m.Slots[5] = r[1], r[1]
		m.Free, m.Link[2] = 3, r[1]|2
		c, l := onto(&m, 2, 1)
		do := c.Doer
		c.Doer = func(a api.Access) (was uint64, done bool) {
			if a.Area == api.Head && a.Do == api.Swap {
				m.Head, m.Slots[2], m.Slots[3] = 2, 0, 1<<32
			}
			return do(a)
		}
		if e := put(c, 4); e != api.OK {
			t.Errorf("%v", e)
		}
		did(t, (*l)[9:], trial.Does(trial.Loses(0, api.Head, 0, 0, r[1]|3, 2), trial.Reads(0, api.Head, 0, 2), trial.Reads(0, api.Slot, 3, 1<<32), trial.Reads(0, api.Slot, 2, 0), trial.Swaps(0, api.Slot, 2, 0, 5),
			trial.Writes(0, api.Slot, 5, r[1]|5, r[1]),
			trial.Reads(0, api.Free, 0, 1<<32|2), trial.Writes(0, api.Link, 2, r[1]|2, r[1]|2), trial.Swaps(0, api.Free, 0, 1<<32|2, 2<<32|3)), trial.LettingGo(0, 0))
	}
}

// P7.1: whether there is a segment hangs on Head's low alone.
func TestHeadLow(t *testing.T) {
	for _, r := range trial.Highs() {
		m, _ := store.New(pile(1, 1, 2))
		m.Head = r[1]
		c, l := onto(&m, 1, 0)
		if e, val := get(c); e != api.Empty || val != 0 {
			t.Errorf("%v %d", e, val)
		}
		did(t, *l, trial.Pinning(0, 0), trial.Does(trial.Reads(0, api.Head, 0, r[1])), trial.LettingGo(0, 0))
		c, l = onto(&m, 1, 0)
		if e := put(c, 4); e != api.OK {
			t.Errorf("%v", e)
		}
		did(t, *l, trial.Pinning(0, 0), trial.Does(trial.Reads(0, api.Head, 0, r[1])), trial.Taking(0, 1, 2),
			trial.Does(trial.Writes(0, api.Slot, 0, 0, 5), trial.Writes(0, api.Next, 0, 0, r[1]), trial.Swaps(0, api.Head, 0, r[1], 1)), trial.LettingGo(0, 0))
	}
}
