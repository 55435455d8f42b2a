package trial

import (
	"strconv"

	"shunting/api"
)

// order looks for an order of calls in which they could have been done one by one.
type order struct {
	config api.Config
	calls  []api.Call
	tried  map[string]bool // which calls are behind, and which values there are: it didn't go on from there
}

// Orderly: is there an order of the calls in which a queue, a ring, or a stack, could have done them one by one, each getting one of the K oldest values, or of the K newest? As layer 9 it owes the others nothing.
func Orderly(c api.Config, calls []api.Call) bool {
	o := order{c, calls, map[string]bool{}}
	return o.goes(0, nil)
}

// goes: does it go on from here, behind the calls of these bits, with these values, the oldest first?
func (o *order) goes(behind uint64, row []uint32) bool {
	key := strconv.FormatUint(behind, 16)
	for _, val := range row {
		key += " " + strconv.FormatUint(uint64(val), 16)
	}
	if o.tried[key] {
		return false
	}
	o.tried[key] = true
	all := true
	for i, call := range o.calls {
		if behind>>i&1 == 1 {
			continue
		}
		all = all && call.To < 0
		if o.first(behind, call) && o.does(behind|1<<i, row, call) {
			return true
		}
	}
	return all
}

// first: is none of the calls that aren't behind ahead of this one?
func (o *order) first(behind uint64, call api.Call) bool {
	for i, other := range o.calls {
		if behind>>i&1 == 0 && other.To >= 0 && other.To < call.From {
			return false
		}
	}
	return true
}

// does: does it go on, if the call does what it told?
func (o *order) does(behind uint64, row []uint32, call api.Call) bool {
	switch {
	case call.Kind == api.Put && call.Code == api.OK:
		return o.room(row, 0) && o.goes(behind, append(row[:len(row):len(row)], call.Val))
	case call.Kind == api.Put && call.Code == api.Full:
		return !o.room(row, 1) && o.goes(behind, row)
	case call.Kind == api.Get && call.Code == api.OK:
		for i, val := range row {
			if o.near(row, i) && (call.To < 0 || call.Out == val) && o.goes(behind, append(row[:i:i], row[i+1:]...)) {
				return true
			}
		}
		return false
	case call.Kind == api.Get:
		return len(row) == 0 && o.goes(behind, row)
	}
	return o.goes(behind, row)
}

// room: is there room for one more, of so many segments less? A ring alone has none at times.
func (o *order) room(row []uint32, less int) bool {
	return o.config.Kind != api.Ring || len(row) < (o.config.M-less)*o.config.K
}

// near: may the value of that number be got?
func (o *order) near(row []uint32, i int) bool {
	if o.config.Kind == api.Stack {
		return len(row)-i <= o.config.K
	}
	return i < o.config.K
}
