// Package word is layer 1: two numbers in one word. See shared/doc/01-word.md.
package word

// Pack: the word of two numbers.
func Pack(high, low uint32) uint64 { return uint64(high)<<32 | uint64(low) }

// High: a word's high number.
func High(w uint64) uint32 { return half(w >> 32) }

// Low: a word's low number.
func Low(w uint64) uint32 { return half(w) }

// Slot: a slot's word, with a value. The 1 tells the value 0 from nothing.
func Slot(version uint32, val uint32) uint64 { return Pack(version, val+1) }

// Bare: a slot's word, with nothing.
func Bare(version uint32) uint64 { return Pack(version, 0) }

// Ref: a reference. The 1 tells the segment 0 from none.
func Ref(life uint32, h int) uint64 { return Pack(life, half(h)+1) }

// Handle: a reference's segment; -1: none.
func Handle(w uint64) int { return int(Low(w)) - 1 }

// half is the lower half of a word, or of a segment's number: both are reckoned modulo 2^32.
func half[N uint64 | int](n N) uint32 { return uint32(n) }
