package word

import (
	"math"
	"testing"
)

const top = math.MaxUint32 // 2^32 - 1

// halves are ordinary numbers and the edges.
func halves() []uint32 {
	return []uint32{0, 1, 2, 5, 0xffff, 0x10000, 0x12345678, 1<<31 - 1, 1 << 31, top - 1, top}
}

// P1.1: a word of two numbers.
func TestPack(t *testing.T) {
	for _, c := range []struct {
		high, low uint32
		word      uint64
	}{
		{0, 0, 0},
		{0, 1, 1},
		{1, 0, 0x100000000},
		{1, 2, 0x100000002},
		{0x12345678, 0x9abcdef0, 0x123456789abcdef0},
		{0, top, 0xffffffff},
		{top, 0, 0xffffffff00000000},
		{top, top, 0xffffffffffffffff},
		{1 << 31, 1 << 31, 0x8000000080000000},
	} {
		if w := Pack(c.high, c.low); w != c.word {
			t.Errorf("Pack(%#x, %#x): %#x, not %#x", c.high, c.low, w, c.word)
		}
	}
}

// P1.1: the numbers of a word.
func TestHighLow(t *testing.T) {
	for _, c := range []struct {
		word      uint64
		high, low uint32
	}{
		{0, 0, 0},
		{7, 0, 7},
		{7 << 32, 7, 0},
		{0x123456789abcdef0, 0x12345678, 0x9abcdef0},
		{0xffffffff, 0, top},
		{0xffffffff00000000, top, 0},
		{0xffffffffffffffff, top, top},
		{1 << 63, 1 << 31, 0},
	} {
		if h, l := High(c.word), Low(c.word); h != c.high || l != c.low {
			t.Errorf("High, Low of %#x: %#x, %#x, not %#x, %#x", c.word, h, l, c.high, c.low)
		}
	}
}

// P1.2: a slot's words; a value whose sum with 1 goes round leaves the version as it is.
func TestSlotBare(t *testing.T) {
	for _, c := range []struct {
		version, val uint32
		slot, bare   uint64
	}{
		{0, 0, 1, 0},
		{2, 5, 0x200000006, 0x200000000},
		{9, 0, 0x900000001, 0x900000000},
		{0, 1<<31 - 1, 0x80000000, 0},
		{top, 7, 0xffffffff00000008, 0xffffffff00000000},
		{3, top - 1, 0x3ffffffff, 0x300000000},
		{3, top, 0x300000000, 0x300000000},
		{top, top, 0xffffffff00000000, 0xffffffff00000000},
	} {
		if w := Slot(c.version, c.val); w != c.slot {
			t.Errorf("Slot(%#x, %#x): %#x, not %#x", c.version, c.val, w, c.slot)
		}
		if w := Bare(c.version); w != c.bare {
			t.Errorf("Bare(%#x): %#x, not %#x", c.version, w, c.bare)
		}
	}
}

// P1.2: references, of segments that may be, and of numbers that none has.
func TestRef(t *testing.T) {
	for _, c := range []struct {
		life uint32
		h    int
		word uint64
	}{
		{0, 0, 1},
		{3, 4, 0x300000005},
		{top, 63, 0xffffffff00000040},
		{1, 1<<31 - 1, 0x180000000},
		{1, top - 1, 0x1ffffffff},
		{1, top, 0x100000000},
		{1, 1 << 32, 0x100000001},
		{1, 1<<32 + 4, 0x100000005},
		{1, 1<<40 + 1<<32 - 1, 0x100000000},
		{1, math.MaxInt64, 0x100000000},
		{0, -1, 0},
		{1, -1, 0x100000000},
		{1, -2, 0x1ffffffff},
		{1, -1 << 32, 0x100000001},
		{1, -1<<32 - 1, 0x100000000},
		{1, math.MinInt64, 0x100000001},
	} {
		if w := Ref(c.life, c.h); w != c.word {
			t.Errorf("Ref(%#x, %d): %#x, not %#x", c.life, c.h, w, c.word)
		}
	}
}

// P1.2: a reference's segment, and none, whatever the life.
func TestHandle(t *testing.T) {
	for _, c := range []struct {
		word uint64
		h    int
	}{
		{0, -1},
		{7 << 32, -1},
		{0xffffffff00000000, -1},
		{1, 0},
		{0x300000005, 4},
		{0xffffffff00000040, 63},
		{0x80000000, 1<<31 - 1},
		{0x180000001, 1 << 31},
		{0x1ffffffff, top - 1},
		{0xffffffffffffffff, top - 1},
	} {
		if h := Handle(c.word); h != c.h {
			t.Errorf("Handle(%#x): %d, not %d", c.word, h, c.h)
		}
	}
}

// P1.3: two numbers come out of their word, and a word out of its numbers.
func TestPackThere(t *testing.T) {
	for _, high := range halves() {
		for _, low := range halves() {
			w := Pack(high, low)
			if High(w) != high || Low(w) != low {
				t.Errorf("Pack(%#x, %#x) is unpacked as %#x, %#x", high, low, High(w), Low(w))
			}
			if w != Pack(High(w), Low(w)) {
				t.Errorf("%#x is packed anew as %#x", w, Pack(High(w), Low(w)))
			}
		}
	}
}

// P1.3: a slot's version and value come out of its word (of the greatest number, nothing: its sum with 1 is 0).
func TestSlotThere(t *testing.T) {
	for _, version := range halves() {
		for _, val := range halves() {
			w := Slot(version, val)
			if High(w) != version || Low(w)-1 != val {
				t.Errorf("Slot(%#x, %#x) is unpacked as %#x, %#x", version, val, High(w), Low(w)-1)
			}
			if (w == Bare(version)) != (val == top) {
				t.Errorf("Slot(%#x, %#x) and Bare: %#x", version, val, w)
			}
		}
		if w := Bare(version); High(w) != version || Low(w) != 0 {
			t.Errorf("Bare(%#x): %#x", version, w)
		}
	}
}

// P1.3: a reference's life and segment come out of its word; of a number that goes round, what is left modulo 2^32.
func TestRefThere(t *testing.T) {
	for _, life := range halves() {
		for _, h := range []int{-1, 0, 1, 63, 64, 1<<31 - 1, 1 << 31, top - 1} {
			w := Ref(life, h)
			if High(w) != life || Handle(w) != h {
				t.Errorf("Ref(%#x, %d) is unpacked as %#x, %d", life, h, High(w), Handle(w))
			}
			for _, round := range []int{1 << 32, -1 << 32, 1 << 62, math.MinInt64} {
				if Ref(life, h+round) != w {
					t.Errorf("Ref(%#x, %d): %#x, not %#x", life, h+round, Ref(life, h+round), w)
				}
			}
		}
	}
}
