package epoch

import (
	"shunting/api"
	"shunting/arena"
	"shunting/word"
)

// doer does accesses of a call, one after the other.
type doer func(a api.Access) (was uint64, done bool)

// read tells what is there.
func (d doer) read(area, at int) uint64 {
	was, _ := d(api.Access{Do: api.Read, Area: area, At: at})
	return was
}

// write puts w there.
func (d doer) write(area, at int, w uint64) {
	d(api.Access{Do: api.Write, Area: area, At: at, New: w})
}

// swap puts w there, if old is there, and tells whether it did.
func (d doer) swap(area, at int, old, w uint64) bool {
	_, done := d(api.Access{Do: api.Swap, Area: area, At: at, Old: old, New: w})
	return done
}

// reached: is each thread that is pinned so in the epoch g? The first one that isn't ends the look.
func (d doer) reached(g uint64, threads int) bool {
	for t := range threads {
		if p := d.read(api.Pin, t); p != 0 && p != g+1 {
			return false
		}
	}
	return true
}

// empty takes all segments out of a list of limbo, if it is w still, and frees them. Who doesn't get it put leaves them to who did: else they would be given back twice.
func (d doer) empty(at int, w uint64) {
	if d.swap(api.Limbo, at, w, word.Pack(word.High(w), 0)) {
		d.free(word.Low(w))
	}
}

// free gives back the segments of a chain, from a number and 1 on. A link is read ahead of giving its segment back, which writes it.
func (d doer) free(low uint32) {
	for low != 0 {
		l := d.read(api.Link, word.Handle(uint64(low)))
		arena.Give(d, word.Pack(word.High(l), low))
		low = word.Low(l)
	}
}
