package fifo

import (
	"slices"
	"testing"

	"shunting/api"
	"shunting/slots"
	"shunting/store"
	"shunting/trial"
)

// onto is a call that does accesses to these words, by the thread 0, and its steps.
func onto(m *api.Mem, size, first int) (*slots.Call, *[]api.Step) {
	do, l := trial.Onto(m)
	return &slots.Call{Doer: do, Size: size, First: first}, l
}

// did holds steps against what was told of them.
func did(t *testing.T, l []api.Step, parts ...[]api.Step) {
	t.Helper()
	if want := slices.Concat(parts...); !slices.Equal(l, want) {
		t.Errorf("%+v, not %+v", l, want)
	}
}

// P6.1: a Put goes by the life of Tail's reference: just what is bare in that life is.
func TestPutLife(t *testing.T) {
	for _, r := range trial.Highs() {
		m, _ := store.New(queue(4, 1, 3))
		m.Tail = r[1] | 2
		was := []uint64{r[2], r[1] | 6, r[0], r[1]}
		copy(m.Slots[4:], was)
		c, l := onto(&m, 4, 0)
		if e := put(c, 8); e != api.OK {
			t.Errorf("%v", e)
		}
		did(t, *l, trial.Pinning(0, 0), trial.Does(trial.Reads(0, api.Tail, 0, r[1]|2),
			trial.Reads(0, api.Slot, 4, was[0]), trial.Reads(0, api.Slot, 5, was[1]), trial.Reads(0, api.Slot, 6, was[2]), trial.Reads(0, api.Slot, 7, was[3]),
			trial.Swaps(0, api.Slot, 7, r[1], r[1]|9)), trial.LettingGo(0, 0))
	}
}

// P6.1: a Get goes by the life of Head's reference: just what has a value in that life is got, and what is left there is the next life's.
func TestGetLife(t *testing.T) {
	for _, r := range trial.Highs() {
		m, _ := store.New(queue(4, 1, 3))
		m.Head = r[1] | 3
		was := []uint64{r[2], r[2] | 6, r[0] | 7, r[1] | 9}
		copy(m.Slots[8:], was)
		c, l := onto(&m, 4, 0)
		if e, val := get(c); e != api.OK || val != 8 {
			t.Errorf("%v %d", e, val)
		}
		did(t, *l, trial.Pinning(0, 0), trial.Does(trial.Reads(0, api.Head, 0, r[1]|3),
			trial.Reads(0, api.Slot, 8, was[0]), trial.Reads(0, api.Slot, 9, was[1]), trial.Reads(0, api.Slot, 10, was[2]), trial.Reads(0, api.Slot, 11, was[3]),
			trial.Swaps(0, api.Slot, 11, r[1]|9, r[2])), trial.LettingGo(0, 0))
	}
}

// P6.1: whether a Get looks twice hangs on what is bare in Head's life.
func TestEmptyLife(t *testing.T) {
	for _, r := range trial.Highs() {
		m, _ := store.New(queue(2, 1, 2))
		m.Head = r[1] | 1
		m.Slots[0], m.Slots[1] = r[2], r[1]
		c, l := onto(&m, 2, 0)
		e, _ := get(c)
		look := trial.Does(trial.Reads(0, api.Slot, 0, r[2]), trial.Reads(0, api.Slot, 1, r[1]))
		did(t, *l, trial.Pinning(0, 0), trial.Does(trial.Reads(0, api.Head, 0, r[1]|1)), look, look, trial.LettingGo(0, 0))
		m.Slots[1] = r[2]
		c, l = onto(&m, 2, 1)
		f, _ := get(c)
		did(t, *l, trial.Pinning(0, 0), trial.Does(trial.Reads(0, api.Head, 0, r[1]|1), trial.Reads(0, api.Slot, 1, r[2]), trial.Reads(0, api.Slot, 0, r[2]), trial.Reads(0, api.Next, 0, 0)), trial.LettingGo(0, 0))
		if e != api.Empty || f != api.Empty {
			t.Errorf("%v, %v", e, f)
		}
	}
}

// P6.1: a segment that is taken has the life that its link kept: by that it is filled and linked.
func TestTakenLife(t *testing.T) {
	for _, r := range trial.Highs() {
		m, _ := store.New(queue(2, 1, 3))
		m.Slots[0], m.Slots[1], m.Slots[4], m.Slots[5] = 1, 1, r[1], r[1]
		m.Free, m.Link[2], m.Next[2] = trial.Top<<32|3, r[1]|2, 9
		c, l := onto(&m, 2, 1)
		if e := put(c, 4); e != api.OK {
			t.Errorf("%v", e)
		}
		did(t, *l, trial.Pinning(0, 0), trial.Does(trial.Reads(0, api.Tail, 0, 1), trial.Reads(0, api.Slot, 1, 1), trial.Reads(0, api.Slot, 0, 1), trial.Reads(0, api.Next, 0, 0),
			trial.Reads(0, api.Free, 0, trial.Top<<32|3), trial.Reads(0, api.Link, 2, r[1]|2), trial.Swaps(0, api.Free, 0, trial.Top<<32|3, 2),
			trial.Writes(0, api.Next, 2, 9, 0), trial.Writes(0, api.Slot, 5, r[1], r[1]|5), trial.Swaps(0, api.Next, 0, 0, r[1]|3), trial.Swaps(0, api.Tail, 0, 1, r[1]|3)), trial.LettingGo(0, 0))
	}
}

// P6.1: a segment that is given back has the life that it had when it was taken, and its slot is bare in it.
func TestGivenLife(t *testing.T) {
	for _, r := range trial.Highs() {
		m, _ := store.New(queue(2, 1, 3))
		m.Slots[0], m.Slots[1], m.Slots[2], m.Slots[4], m.Slots[5] = 1, 1, 1<<32, r[1], r[1]
		m.Free, m.Link[2] = 3, r[1]|2
		c, l := onto(&m, 2, 1)
		do := c.Doer
		c.Doer = func(a api.Access) (was uint64, done bool) {
			if a.Area == api.Next && a.Do == api.Swap {
				m.Next[0], m.Tail, m.Slots[2], m.Slots[3] = 2, 2, 0, 0
			}
			return do(a)
		}
		if e := put(c, 4); e != api.OK {
			t.Errorf("%v", e)
		}
		did(t, (*l)[12:], trial.Does(trial.Loses(0, api.Next, 0, 0, r[1]|3, 2), trial.Reads(0, api.Tail, 0, 2), trial.Reads(0, api.Slot, 3, 0), trial.Swaps(0, api.Slot, 3, 0, 5),
			trial.Writes(0, api.Slot, 5, r[1]|5, r[1]),
			trial.Reads(0, api.Free, 0, 1<<32|2), trial.Writes(0, api.Link, 2, r[1]|2, r[1]|2), trial.Swaps(0, api.Free, 0, 1<<32|2, 2<<32|3)), trial.LettingGo(0, 0))
	}
}

// P6.1: a segment that is retired will have the next life.
func TestRetiredLife(t *testing.T) {
	for _, r := range trial.Highs() {
		m, _ := store.New(queue(1, 1, 3))
		m.Head, m.Tail, m.Next[1] = r[1]|2, 1, 3
		m.Slots[1], m.Slots[2] = r[2], 8
		c, l := onto(&m, 1, 0)
		if e, val := get(c); e != api.OK || val != 7 {
			t.Errorf("%v %d", e, val)
		}
		did(t, *l, trial.Pinning(0, 0), trial.Does(trial.Reads(0, api.Head, 0, r[1]|2), trial.Reads(0, api.Slot, 1, r[2]), trial.Reads(0, api.Next, 1, 3), trial.Reads(0, api.Tail, 0, 1), trial.Swaps(0, api.Head, 0, r[1]|2, 3),
			trial.Reads(0, api.Epoch, 0, 0), trial.Reads(0, api.Limbo, 0, 0), trial.Writes(0, api.Link, 1, 3, r[2]), trial.Swaps(0, api.Limbo, 0, 0, 2),
			trial.Reads(0, api.Head, 0, 3), trial.Reads(0, api.Slot, 2, 8), trial.Swaps(0, api.Slot, 2, 8, 1<<32)), trial.LettingGo(0, 0))
	}
}
