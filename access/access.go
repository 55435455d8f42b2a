// Package access is how a call does its accesses: by a closure that has methods.
package access

import "shunting/api"

// Doer does an access of a call that is on, and tells what was there, and whether something was put there.
type Doer func(a api.Access) (was uint64, done bool)

// Read tells what is there.
func (d Doer) Read(area, at int) uint64 {
	was, _ := d(api.Access{Do: api.Read, Area: area, At: at})
	return was
}

// Write puts w there.
func (d Doer) Write(area, at int, w uint64) {
	d(api.Access{Do: api.Write, Area: area, At: at, New: w})
}

// Swap puts w there, if old is there, and tells what was there, and whether it did.
func (d Doer) Swap(area, at int, old, w uint64) (was uint64, done bool) {
	return d(api.Access{Do: api.Swap, Area: area, At: at, Old: old, New: w})
}
