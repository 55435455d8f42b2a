package trial

import (
	"math"
	"slices"
	"strconv"

	"shunting/api"
	"shunting/store"
)

// Life is that of a value: when it was put, and when it was got, by the numbers of the calls' first and last steps. Never, if it wasn't.
type Life struct{ PutFrom, PutTo, GotFrom, GotTo int }

// Never is behind all steps.
const Never = math.MaxInt

// Lives are those of all values of a trace, each of which is to have been put by one call, and got by one at most; wrong is what is wrong with that, "": nothing.
func Lives(x api.Trace) (l map[uint32]Life, wrong string) {
	l = map[uint32]Life{}
	for _, call := range x.Calls {
		if call.Kind != api.Put || call.Code != api.OK {
			continue
		}
		v := Life{call.From, call.To, Never, Never}
		if call.To < 0 {
			v.PutTo = Never
		}
		l[call.Val] = v
	}
	for _, call := range x.Calls {
		if call.Kind != api.Get || call.To < 0 || call.Code != api.OK {
			continue
		}
		v, is := l[call.Out]
		if !is || v.GotTo != Never || v.PutFrom > call.To {
			return nil, strconv.FormatUint(uint64(call.Out), 10) + " is got, though it wasn't put, or once more"
		}
		v.GotFrom, v.GotTo = call.From, call.To
		l[call.Out] = v
	}
	return l, ""
}

// surely: was a value there all the time from one step to another one?
func (v Life) surely(from, to int) bool { return v.PutTo < from && v.GotFrom > to }

// Ahead tells, of a trace of which all Gets are over, how many values, at most, were surely ahead of one that was got, older, or of a stack younger; wrong is what is wrong with that: K or more, or one that was surely there when Empty was told. "" is nothing.
func Ahead(c api.Config, x api.Trace, values map[uint32]Life) (most int, wrong string) {
	for i, call := range x.Calls {
		if call.Kind != api.Get || call.To < 0 {
			continue
		}
		n := 0
		for _, v := range values {
			switch got := values[call.Out]; {
			case !v.surely(call.From, call.To):
			case call.Code == api.Empty, c.Kind == api.Stack && v.PutFrom > got.PutTo, c.Kind != api.Stack && v.PutTo < got.PutFrom:
				n++
			}
		}
		if call.Code == api.Empty && n > 0 || call.Code == api.OK && n >= c.K {
			return 0, "the call " + strconv.Itoa(i) + ", of " + strconv.Itoa(n) + " values"
		}
		most = max(most, n)
	}
	return most, ""
}

// Crowded tells what is wrong with the room that a ring's trace tells: Full, though there never were M less 1 times K values while the call was on, or more than M times K that were surely there behind a call. "" is nothing.
func Crowded(c api.Config, x api.Trace, values map[uint32]Life) string {
	for i, call := range x.Calls {
		maybe, surely := 0, 0
		for _, v := range values {
			if v.PutFrom <= call.To && v.GotTo >= call.From {
				maybe++
			}
			if v.surely(call.To+1, call.To) {
				surely++
			}
		}
		if call.Code == api.Full && maybe < (c.M-1)*c.K || surely > c.M*c.K {
			return "the call " + strconv.Itoa(i) + ", of " + strconv.Itoa(maybe) + " values, " + strconv.Itoa(surely) + " of them surely"
		}
	}
	return ""
}

// Drained tells what is wrong with a trace of which all calls are over, the last one telling Empty: whether a value is lost, or a segment (a ring has none that could be). "" is nothing.
func Drained(c api.Config, x api.Trace, values map[uint32]Life) string {
	if last := x.Calls[len(x.Calls)-1]; last.Code != api.Empty || last.To < 0 {
		return "the last call isn't over, or tells something else than Empty"
	}
	for val, v := range values {
		if v.PutTo != Never && v.GotTo == Never {
			return strconv.FormatUint(uint64(val), 10) + " is lost"
		}
	}
	if c.Kind == api.Ring {
		return ""
	}
	l := slices.Concat(chained(x.End.Link, x.End.Free), chained(x.End.Next, x.End.Head))
	for _, w := range x.End.Limbo {
		l = append(l, chained(x.End.Link, w)...)
	}
	slices.Sort(l)
	if len(l) != c.M || len(slices.Compact(l)) != c.M {
		return "a segment is lost, or twice there"
	}
	return ""
}

// Looks is the number of the first step that looks at a slot of a segment that is free; -1: none does.
func Looks(c api.Config, x api.Trace) int {
	m, _ := store.New(c)
	for i, s := range x.Steps {
		if s.Access.Area == api.Slot && slices.Contains(chained(m.Link, m.Free), s.Access.At/c.K) {
			return i
		}
		m, _, _ = store.Do(m, s.Access)
	}
	return -1
}

// chained are the segments of a list, from the one that a word leads to on; at most as many as there are words behind it, and one more.
func chained(behind []uint64, w uint64) (l []int) {
	for low := w & Low; low != 0 && len(l) <= len(behind); low = behind[low-1] & Low {
		l = append(l, int(low-1))
	}
	return l
}
