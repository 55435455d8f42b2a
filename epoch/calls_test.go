package epoch

import (
	"slices"
	"testing"

	"shunting/api"
	"shunting/drive"
	"shunting/store"
	"shunting/trial"
)

// top is the greatest number of 32 bits.
const top = 1<<32 - 1

// shared are words that a thread 0 does accesses to, and what it did.
type shared struct {
	words api.Mem
	steps []api.Step
	turns map[int]func() // what others do ahead of the access of that number
}

// starts answers the words at first of two threads and four segments, but with this Epoch.
func starts(epoch uint64) *shared {
	m, _ := store.New(ring(2, 4))
	m.Epoch = epoch
	return &shared{words: m, turns: map[int]func(){}}
}

func (s *shared) do(a api.Access) (was uint64, done bool) {
	if f := s.turns[len(s.steps)]; f != nil {
		f()
	}
	s.words, was, done = store.Do(s.words, a)
	s.steps = append(s.steps, trial.Did(0, a, was, done))
	return was, done
}

// did holds the steps against what was told.
func (s *shared) did(t *testing.T, steps ...api.Step) {
	t.Helper()
	if !slices.Equal(s.steps, steps) {
		t.Errorf("%+v, not %+v", s.steps, steps)
	}
}

// P5.1: a pin is an epoch and 1, however great that is.
func TestHoldGreat(t *testing.T) {
	for _, e := range []uint64{0, 6, top - 1, top, 1 << 32, 5<<32 + 7, 1<<64 - 2, 1<<64 - 1} {
		s := starts(e)
		Hold(s.do, 1)
		Drop(s.do, 1)
		s.did(t, trial.Reads(0, api.Epoch, 0, e), trial.Writes(0, api.Pin, 1, 0, e+1), trial.Reads(0, api.Epoch, 0, e), trial.Writes(0, api.Pin, 1, e+1, 0))
	}
}

// P5.1: a thread that pins itself goes by what it read last, also if Epoch is what it once was.
func TestHoldBack(t *testing.T) {
	s := starts(3)
	for i, e := range []uint64{5, 3, 5 + 1<<32} {
		s.turns[2+2*i] = func() { s.words.Epoch = e }
	}
	Hold(s.do, 0)
	s.did(t, trial.Reads(0, api.Epoch, 0, 3),
		trial.Writes(0, api.Pin, 0, 0, 4), trial.Reads(0, api.Epoch, 0, 5),
		trial.Writes(0, api.Pin, 0, 4, 6), trial.Reads(0, api.Epoch, 0, 3),
		trial.Writes(0, api.Pin, 0, 6, 4), trial.Reads(0, api.Epoch, 0, 5+1<<32),
		trial.Writes(0, api.Pin, 0, 4, 6+1<<32), trial.Reads(0, api.Epoch, 0, 5+1<<32))
}

// P5.1: which list of limbo it is, hangs on the whole epoch; its high number is the epoch modulo 2^32; a life goes round.
func TestRetireGreat(t *testing.T) {
	for _, c := range []struct {
		epoch    uint64
		ref      uint64
		at       int
		was      uint64
		link, is uint64
	}{
		{0, 1, 0, 0, 1 << 32, 1},
		{1, 0x700000003, 1, 0x100000002, 0x800000002, 0x100000003},
		{2, 0xffffffff00000003, 2, 0x200000001, 1, 0x200000003},
		{5, 4, 2, 0x200000000, 1 << 32, 0x500000004},
		{top, 2, 0, 0xffffffff00000001, 0x100000001, 0xffffffff00000002},
		{1 << 32, 2, 1, 1, 0x100000001, 2},
		{1 << 32, 2, 1, 0, 1 << 32, 2},
		{7<<32 + 9, 0xfffffffe00000002, 1, 0x900000004, 0xffffffff00000004, 0x900000002},
		{1<<64 - 1, 2, 0, 0xffffffff00000003, 0x100000003, 0xffffffff00000002},
	} {
		s := starts(c.epoch)
		s.words.Limbo[c.at] = c.was
		Retire(s.do, c.ref)
		s.did(t, trial.Reads(0, api.Epoch, 0, c.epoch), trial.Reads(0, api.Limbo, c.at, c.was),
			trial.Writes(0, api.Link, int(c.ref&top)-1, 0, c.link), trial.Swaps(0, api.Limbo, c.at, c.was, c.is))
	}
}

// P5.1: a list of another epoch, an earlier or a later one, is freed, a chain's segments from the first one on, each with the life that its link kept; then what is there is looked at anew.
func TestRetireFrees(t *testing.T) {
	for _, high := range []uint64{0, 3, 5, 9, top} {
		s := starts(6)
		s.words.Free = 0xffffffff00000000
		s.words.Limbo[0] = high<<32 | 2
		s.words.Link[1] = 0x500000004
		s.words.Link[3] = 0xffffffff00000001
		s.words.Link[0] = 0x900000000
		Retire(s.do, 0x200000003)
		s.did(t, trial.Reads(0, api.Epoch, 0, 6), trial.Reads(0, api.Limbo, 0, high<<32|2), trial.Swaps(0, api.Limbo, 0, high<<32|2, high<<32),
			trial.Reads(0, api.Link, 1, 0x500000004), trial.Reads(0, api.Free, 0, 0xffffffff00000000), trial.Writes(0, api.Link, 1, 0x500000004, 0x500000000), trial.Swaps(0, api.Free, 0, 0xffffffff00000000, 2),
			trial.Reads(0, api.Link, 3, 0xffffffff00000001), trial.Reads(0, api.Free, 0, 2), trial.Writes(0, api.Link, 3, 0xffffffff00000001, 0xffffffff00000002), trial.Swaps(0, api.Free, 0, 2, 0x100000004),
			trial.Reads(0, api.Link, 0, 0x900000000), trial.Reads(0, api.Free, 0, 0x100000004), trial.Writes(0, api.Link, 0, 0x900000000, 0x900000004), trial.Swaps(0, api.Free, 0, 0x100000004, 0x200000001),
			trial.Reads(0, api.Limbo, 0, high<<32), trial.Writes(0, api.Link, 2, 0, 0x300000000), trial.Swaps(0, api.Limbo, 0, high<<32, 0x600000003))
	}
}

// P5.1: who doesn't empty a list frees nothing of it: neither if another one did so, nor if another one put more there; that is looked at anew.
func TestRetireFreesNot(t *testing.T) {
	s := starts(3)
	s.words.Limbo[0] = 2
	s.turns[2] = func() { s.words.Limbo[0] = 4 }
	s.turns[4] = func() { s.words.Limbo[0] = 0 }
	Retire(s.do, 3)
	s.did(t, trial.Reads(0, api.Epoch, 0, 3), trial.Reads(0, api.Limbo, 0, 2), trial.Loses(0, api.Limbo, 0, 2, 0, 4),
		trial.Reads(0, api.Limbo, 0, 4), trial.Loses(0, api.Limbo, 0, 4, 0, 0),
		trial.Reads(0, api.Limbo, 0, 0), trial.Writes(0, api.Link, 2, 0, 1<<32), trial.Swaps(0, api.Limbo, 0, 0, 0x300000003))
}

// P5.1: Epoch isn't read again, and a list that is another epoch's by the time that it is put there is freed then.
func TestRetireLate(t *testing.T) {
	s := starts(3)
	s.turns[1] = func() { s.words.Epoch = 7 }
	s.turns[3] = func() { s.words.Limbo[0] = 0x600000002 }
	Retire(s.do, 3)
	s.did(t, trial.Reads(0, api.Epoch, 0, 3), trial.Reads(0, api.Limbo, 0, 0), trial.Writes(0, api.Link, 2, 0, 1<<32), trial.Loses(0, api.Limbo, 0, 0, 0x300000003, 0x600000002),
		trial.Reads(0, api.Limbo, 0, 0x600000002), trial.Swaps(0, api.Limbo, 0, 0x600000002, 0x600000000),
		trial.Reads(0, api.Link, 1, 0), trial.Reads(0, api.Free, 0, 0), trial.Writes(0, api.Link, 1, 0, 0), trial.Swaps(0, api.Free, 0, 0, 1<<32|2),
		trial.Reads(0, api.Limbo, 0, 0x600000000), trial.Writes(0, api.Link, 2, 1<<32, 1<<32), trial.Swaps(0, api.Limbo, 0, 0x600000000, 0x300000003))
}

// P5.1: a chain goes on by the links that it read, while another one takes what was freed; a give-back that loses its race doesn't read the chain's link again.
func TestFreeLoses(t *testing.T) {
	s := starts(2)
	s.words.Free, s.words.Limbo[0] = 4, 1
	s.words.Link[0], s.words.Link[1] = 0x300000002, 0x400000000
	s.turns[9] = func() { s.words.Free = 0x800000000 }
	s.turns[11] = func() { s.words.Link[0] = 0 }
	Collect(s.do, 2)
	s.did(t, trial.Reads(0, api.Epoch, 0, 2), trial.Reads(0, api.Pin, 0, 0), trial.Reads(0, api.Pin, 1, 0), trial.Swaps(0, api.Epoch, 0, 2, 3), trial.Reads(0, api.Epoch, 0, 3), trial.Reads(0, api.Limbo, 1, 0))

	s = starts(1)
	s.words.Free, s.words.Limbo[0] = 4, 1
	s.words.Link[0], s.words.Link[1] = 0x300000002, 0x400000000
	s.turns[10] = func() { s.words.Free = 0x800000000 }
	s.turns[13] = func() { s.words.Link[0] = 0 }
	Collect(s.do, 2)
	s.did(t, trial.Reads(0, api.Epoch, 0, 1), trial.Reads(0, api.Pin, 0, 0), trial.Reads(0, api.Pin, 1, 0), trial.Swaps(0, api.Epoch, 0, 1, 2), trial.Reads(0, api.Epoch, 0, 2), trial.Reads(0, api.Limbo, 0, 1), trial.Swaps(0, api.Limbo, 0, 1, 0),
		trial.Reads(0, api.Link, 0, 0x300000002), trial.Reads(0, api.Free, 0, 4), trial.Writes(0, api.Link, 0, 0x300000002, 0x300000004), trial.Loses(0, api.Free, 0, 4, 0x100000001, 0x800000000),
		trial.Reads(0, api.Free, 0, 0x800000000), trial.Writes(0, api.Link, 0, 0x300000004, 0x300000000), trial.Swaps(0, api.Free, 0, 0x800000000, 0x900000001),
		trial.Reads(0, api.Link, 1, 0x400000000), trial.Reads(0, api.Free, 0, 0x900000001), trial.Writes(0, api.Link, 1, 0x400000000, 0x400000001), trial.Swaps(0, api.Free, 0, 0x900000001, 0xa00000002))
}

// P5.1: what is collected must have been retired two epochs ago, or earlier; a high number isn't taken modulo 2^32 then, the epoch neither.
func TestCollectOld(t *testing.T) {
	for _, c := range []struct {
		epoch uint64 // that it is behind the Swap
		at    int
		limbo uint64
		frees bool
	}{
		{1, 2, 0, false},
		{1, 2, 1, false},
		{2, 0, 1, true},
		{2, 0, 0x100000001, false},
		{2, 0, 0x300000001, false},
		{2, 0, 0xfffffffe00000001, false},
		{2, 0, 0xffffffff00000001, false},
		{7, 2, 0x500000000, false},
		{7, 2, 0x400000001, true},
		{7, 2, 0x500000001, true},
		{7, 2, 0x600000001, false},
		{7, 2, 0x700000001, false},
		{8, 0, 0x600000004, true},
		{9, 1, 0x700000004, true},
		{top, 1, 0xfffffffd00000001, true},
		{top, 1, 0xfffffffe00000001, false},
		{1 << 32, 2, 0xfffffffe00000001, true},
		{1 << 32, 2, 0xffffffff00000001, false},
		{1<<32 + 1, 0, 0xffffffff00000001, true},
		{1<<32 + 1, 0, 1, true},
	} {
		s := starts(c.epoch - 1)
		s.words.Limbo[c.at], s.words.Link[int(max(c.limbo&top, 1))-1] = c.limbo, 0x500000000
		Collect(s.do, 1)
		steps := []api.Step{trial.Reads(0, api.Epoch, 0, c.epoch-1), trial.Reads(0, api.Pin, 0, 0), trial.Swaps(0, api.Epoch, 0, c.epoch-1, c.epoch), trial.Reads(0, api.Epoch, 0, c.epoch), trial.Reads(0, api.Limbo, c.at, c.limbo)}
		if low := c.limbo & top; c.frees {
			steps = append(steps, trial.Swaps(0, api.Limbo, c.at, c.limbo, c.limbo-low),
				trial.Reads(0, api.Link, int(low)-1, 0x500000000), trial.Reads(0, api.Free, 0, 0), trial.Writes(0, api.Link, int(low)-1, 0x500000000, 0x500000000), trial.Swaps(0, api.Free, 0, 0, 1<<32|low))
		}
		s.did(t, steps...)
	}
}

// P5.1: which pins hold Epoch back: those of any other epoch, be it earlier or later.
func TestCollectPins(t *testing.T) {
	for _, c := range []struct {
		epoch uint64
		pins  []uint64
		read  int // how many pins are
		goes  bool
	}{
		{0, []uint64{0, 0}, 2, true},
		{0, []uint64{1, 1}, 2, true},
		{5, []uint64{6, 0}, 2, true},
		{5, []uint64{0, 6}, 2, true},
		{5, []uint64{5, 6}, 1, false},
		{5, []uint64{6, 5}, 2, false},
		{5, []uint64{7, 0}, 1, false},
		{5, []uint64{0, 7}, 2, false},
		{5, []uint64{1, 1}, 1, false},
		{5, []uint64{6 + 1<<32, 0}, 1, false},
		{5 + 1<<32, []uint64{0, 6}, 2, false},
		{top, []uint64{1 << 32, 1 << 32}, 2, true},
	} {
		s := starts(c.epoch)
		s.words.Pins = c.pins
		steps := []api.Step{trial.Reads(0, api.Epoch, 0, c.epoch)}
		for n := range c.read {
			steps = append(steps, trial.Reads(0, api.Pin, n, c.pins[n]))
		}
		now := c.epoch
		if c.goes {
			now++
			steps = append(steps, trial.Swaps(0, api.Epoch, 0, c.epoch, now))
		}
		steps = append(steps, trial.Reads(0, api.Epoch, 0, now), trial.Reads(0, api.Limbo, int((now+1)%3), 0))
		Collect(s.do, 2)
		s.did(t, steps...)
	}
}

// P5.1: a Collect goes by the epoch that it reads last, also if it held back, and frees nothing that is retired in limbo meanwhile.
func TestCollectLate(t *testing.T) {
	s := starts(4)
	s.words.Pins[0] = 4
	s.words.Limbo[1], s.words.Limbo[0] = 0x400000001, 0x600000002
	s.turns[2] = func() { s.words.Epoch = 6 }
	s.turns[4] = func() { s.words.Limbo[1] = 0x400000003 }
	Collect(s.do, 2)
	s.did(t, trial.Reads(0, api.Epoch, 0, 4), trial.Reads(0, api.Pin, 0, 4), trial.Reads(0, api.Epoch, 0, 6), trial.Reads(0, api.Limbo, 1, 0x400000001), trial.Loses(0, api.Limbo, 1, 0x400000001, 0x400000000, 0x400000003))

	// Epoch goes on ahead of the last look: what is there then was retired just now.
	s = starts(4)
	s.turns[5] = func() { s.words.Epoch, s.words.Limbo[0] = 6, 0x600000002 }
	Collect(s.do, 2)
	s.did(t, trial.Reads(0, api.Epoch, 0, 4), trial.Reads(0, api.Pin, 0, 0), trial.Reads(0, api.Pin, 1, 0), trial.Swaps(0, api.Epoch, 0, 4, 5), trial.Reads(0, api.Epoch, 0, 5), trial.Reads(0, api.Limbo, 0, 0x600000002))
}

// P5.1: a call of a layer above does all four by a machine of its own, among other accesses.
func TestWithin(t *testing.T) {
	begin := func(thread int, _ api.Op, _ uint32) drive.Machine {
		return drive.Proc(func(do func(a api.Access) (was uint64, done bool)) (api.Code, uint32) {
			Hold(do, thread)
			do(trial.Write(api.Next, 1, 5))
			Retire(do, 0x300000002)
			Drop(do, thread)
			Collect(do, 2)
			Collect(do, 2)
			was, _ := do(trial.Read(api.Link, 1))
			return api.Empty, uint32(was >> 32)
		})
	}
	x, e := drive.Run(ring(2, 2), [][]api.Op{nil, {{}}}, trial.Turns(1, 40), begin)
	if e != api.OK || len(x.Calls) != 1 || x.Calls[0] != (api.Call{Thread: 1, From: 0, To: 26, Code: api.Empty, Out: 4}) || x.End.Free != 0x100000002 || x.End.Link[1] != 0x400000000 || x.End.Epoch != 2 {
		t.Errorf("%+v %v", x, e)
	}
}
