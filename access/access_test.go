package access

import (
	"slices"
	"testing"

	"shunting/api"
	"shunting/trial"
)

// heard answers what notes each access that it is handed, and tells was and done.
func heard(was uint64, done bool) (*[]api.Access, Doer) {
	var l []api.Access
	return &l, func(a api.Access) (uint64, bool) {
		l = append(l, a)
		return was, done
	}
}

// Each method asks for one access, of all areas and places, and tells what it was told.
func TestMethods(t *testing.T) {
	for area := api.Epoch; area <= api.Slot; area++ {
		for _, at := range []int{0, 1, 4095, -1} {
			for _, done := range []bool{false, true} {
				l, d := heard(7<<32+9, done)
				read := d.Read(area, at)
				d.Write(area, at, 5)
				was, put := d.Swap(area, at, 6, 1<<63)
				if read != 7<<32+9 || was != 7<<32+9 || put != done {
					t.Errorf("area %d at %d: %#x, %#x, %v", area, at, read, was, put)
				}
				if want := []api.Access{trial.Read(area, at), trial.Write(area, at, 5), trial.Swap(area, at, 6, 1<<63)}; !slices.Equal(*l, want) {
					t.Errorf("area %d at %d: %+v", area, at, *l)
				}
			}
		}
	}
}
