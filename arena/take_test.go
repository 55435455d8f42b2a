package arena

import (
	"testing"

	"shunting/api"
	"shunting/drive"
	"shunting/store"
	"shunting/trial"
)

// does answers words of three segments, with this Free and this link of the first one, what does accesses to them, and how many it did.
func does(free, link uint64) (m *api.Mem, n *int, do func(a api.Access) (uint64, bool)) {
	first, _ := store.New(config(api.Stack, 1, 3))
	m, n = &first, new(int)
	m.Free, m.Link[0] = free, link
	return m, n, func(a api.Access) (was uint64, done bool) {
		*n++
		*m, was, done = store.Do(*m, a)
		return was, done
	}
}

// P4.1: of none nothing is taken, whatever the tag; a segment's life is that of its link, and a tag goes round.
func TestTakeLife(t *testing.T) {
	for _, c := range []struct{ free, link, ref, behind uint64 }{
		{0, 7, 0, 0},
		{0x500000000, 7, 0, 0x500000000},
		{0xffffffff00000000, 7, 0, 0xffffffff00000000},
		{1, 3, 1, 0x100000003},
		{0x800000001, 0x600000002, 0x600000001, 0x900000002},
		{0xfffffffe00000001, 0xffffffff00000000, 0xffffffff00000001, 0xffffffff00000000},
		{0xffffffff00000001, 0x8000000000000003, 0x8000000000000001, 3},
	} {
		m, n, do := does(c.free, c.link)
		if ref := Take(do); ref != c.ref || m.Free != c.behind {
			t.Errorf("%+v: %#x, Free being %#x", c, ref, m.Free)
		}
		if c.ref == 0 && *n != 1 || c.ref != 0 && *n != 3 {
			t.Errorf("%+v: %d accesses", c, *n)
		}
		if m.Link[0] != c.link {
			t.Errorf("%+v: the link became %#x", c, m.Link[0])
		}
	}
}

// P4.1: a reference's life is kept by the link, Free's tag isn't; a tag goes round.
func TestGiveLife(t *testing.T) {
	for _, c := range []struct{ free, ref, link, behind uint64 }{
		{0, 1, 0, 0x100000001},
		{0x500000002, 0x900000001, 0x900000002, 0x600000001},
		{0x700000000, 0xffffffff00000001, 0xffffffff00000000, 0x800000001},
		{0xffffffff00000003, 1, 3, 1},
		{0xffffffff00000000, 0x8000000000000001, 0x8000000000000000, 1},
	} {
		m, n, do := does(c.free, 0x123400000003)
		Give(do, c.ref)
		if m.Free != c.behind || m.Link[0] != c.link || *n != 3 {
			t.Errorf("%+v: Free %#x, the link %#x, %d accesses", c, m.Free, m.Link[0], *n)
		}
	}
}

// P4.1: what is given back is taken with the life that it was given back with, the last one first.
func TestGiveTake(t *testing.T) {
	_, _, do := does(0x900000000, 2)
	refs := []uint64{0x700000002, 0xffffffff00000003, 1}
	for _, ref := range refs {
		Give(do, ref)
	}
	for i := range refs {
		if ref := Take(do); ref != refs[len(refs)-1-i] {
			t.Errorf("%d: %#x", i, ref)
		}
	}
	if ref := Take(do); ref != 0 {
		t.Errorf("%#x, of none", ref)
	}
}

// P4.1: a call of a layer above takes and gives back by a machine of its own, access by access, among other accesses.
func TestTakeWithin(t *testing.T) {
	begin := func(_ int, o api.Op, _ uint32) drive.Machine {
		return drive.Proc(func(do func(a api.Access) (was uint64, done bool)) (api.Code, uint32) {
			do(api.Access{Do: api.Write, Area: api.Epoch, New: 5})
			ref := Take(do)
			Give(do, ref+3<<32)
			was, _ := do(readLink(0))
			return api.OK, uint32(was >> 32)
		})
	}
	c := config(api.Stack, 1, 2)
	x, e := drive.Run(c, [][]api.Op{{{}}}, trial.Picked(0, 0, 0, 0, 0, 0, 0, 0), begin)
	if e != api.OK || len(x.Steps) != 8 || len(x.Calls) != 1 || x.Calls[0] != (api.Call{From: 0, To: 7, Out: 3}) || x.End.Free != 0x200000001 || x.End.Link[0] != 0x300000002 {
		t.Errorf("%+v %v", x, e)
	}
}
