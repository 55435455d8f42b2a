package trial

import (
	"math"
	"slices"

	"shunting/api"
)

// Top is the greatest number of 32 bits.
const Top = math.MaxUint32

// Put, Get and Collect are the calls of layers 6 to 8; just a Put's Val has a say.
func Put(val uint32) api.Op { return api.Op{Kind: api.Put, Val: val} }

func Get() api.Op { return api.Op{Kind: api.Get, Val: Top} }

func Collect() api.Op { return api.Op{Kind: api.Collect, Val: Top} }

// AnyCalls are calls, of each thread some; now more Puts, now more Gets.
func AnyCalls(next func(n int) int, threads int) [][]api.Op {
	l := make([][]api.Op, threads)
	for i := range l {
		puts := 1 + next(9)
		for range next(30) {
			o := api.Op{Kind: api.Get, Val: uint32(next(1<<31)) * 2}
			switch n := next(12); {
			case n < puts:
				o.Kind = api.Put
			case n == 11:
				o.Kind = api.Collect
			}
			l[i] = append(l[i], o)
		}
	}
	return l
}

// Few is an input of a kind with 12 calls, each Put's value being its own, of few slots and threads.
func Few(next func(n int) int, kind int) Input {
	c := api.Config{Kind: kind, K: 1 + next(3), T: 2 + next(3), M: 2 + next(4)}
	l := make([][]api.Op, c.T)
	puts := 3 + next(6)
	for n := range 12 {
		i := next(c.T)
		switch {
		case next(10) == 0:
			l[i] = append(l[i], Collect())
		case next(10) < puts:
			l[i] = append(l[i], Put(uint32(n+1)))
		default:
			l[i] = append(l[i], Get())
		}
	}
	picks := Bursts(next, c.T, 60+next(300))
	if next(2) == 0 {
		for i := range picks {
			picks[i].Thread = next(c.T)
		}
	}
	return Input{c, l, picks}
}

// Many is an input of a kind, of so many slots, with many calls, each Put's value being its own; the last thread gets what is left, when the others have no calls left.
func Many(next func(n int) int, kind, size int) Input {
	others, each := 2+next(4), 25
	if size == api.MaxK {
		others, each = 2, 20 // with more of them the picks don't do
	}
	c := api.Config{Kind: kind, K: size, T: others + 1, M: 3 + next(30)}
	l := make([][]api.Op, c.T)
	val := uint32(0)
	for i := range others {
		for range each {
			switch n := next(20); {
			case n < 10:
				val++
				l[i] = append(l[i], Put(val))
			case n < 19:
				l[i] = append(l[i], Get())
			default:
				l[i] = append(l[i], Collect())
			}
		}
	}
	for range val + 1 {
		l[others] = append(l[others], Get())
	}
	picks := slices.DeleteFunc(Bursts(next, others, next(3000)), func(p api.Pick) bool { return p.Thread == others })
	for i := range others {
		picks = append(picks, Turns(i, each*(30+3*c.K))...)
	}
	return Input{c, l, append(picks, Turns(others, api.MaxPicks-len(picks))...)}
}

// Counts counts what steps did and calls told, lest runs are held against each other in which nothing happens.
func Counts(n map[string]int, x api.Trace) {
	for _, s := range x.Steps {
		switch a := s.Access; {
		case a.Do == api.Swap && !s.Done:
			n["a lost race for "+area(a.Area)]++
		case a.Do == api.Write && a.Area == api.Slot && a.New&Low == 0:
			n["a segment given back"]++
		case a.Do == api.Swap && a.Area == api.Head && a.New>>32 > 0:
			n["a segment linked anew"]++
		}
	}
	for _, call := range x.Calls {
		switch {
		case call.To < 0:
			n["a call that isn't over"]++
		case call.Code == api.Empty:
			n["nothing to get"]++
		case call.Code == api.NoMem:
			n["no segment"]++
		case call.Code == api.Full:
			n["no room"]++
		}
	}
}

// area is what an area is called.
func area(n int) string {
	switch n {
	case api.Epoch:
		return "epoch"
	case api.Free:
		return "free"
	case api.Limbo:
		return "limbo"
	case api.Head:
		return "head"
	case api.Tail:
		return "tail"
	case api.Next:
		return "next"
	case api.Slot:
		return "slot"
	}
	return "another word"
}

// WrongFor are inputs that the layer of a kind doesn't run, though layer 3 runs them: the config is another kind's, a call is another layer's, or a Put's value is none; wherever the call stands, and whether it begins or not.
func WrongFor(kind int) (l []Input) {
	right := api.Config{Kind: kind, K: 1, T: 2, M: 2}
	for other := api.Queue; other <= api.Stack; other++ {
		c := right
		c.Kind = other
		if other != kind {
			l = append(l, picked(c, [][]api.Op{nil, nil}, [][]api.Op{{Put(5)}, {Get()}}, [][]api.Op{{Collect()}, nil})...)
		}
	}
	for _, o := range wrongOps() {
		l = append(l, picked(right,
			[][]api.Op{{o}, nil},
			[][]api.Op{{Put(5), Get(), o}, {Collect()}},
			[][]api.Op{nil, {o, Get()}},
			[][]api.Op{{Put(6)}, {Collect(), o, Collect()}})...)
	}
	return l
}

// wrongOps are a Put of what is no value, and calls of other layers, or of none; some of these would do if their Kind were cut to fewer bits.
func wrongOps() []api.Op {
	l := []api.Op{Put(api.MaxVal + 1)}
	for _, kind := range []int{api.Take, api.Give, api.Hold, api.Drop, api.Retire, 0, -1, 9, -api.Put, 1<<8 + api.Put, 1<<16 + api.Get, math.MinInt, math.MinInt + api.Get, math.MinInt + api.Collect, math.MaxInt} {
		l = append(l, api.Op{Kind: kind, Val: 1})
	}
	return l
}

// picked are inputs of these calls, with no picks, with one, and with many.
func picked(c api.Config, calls ...[][]api.Op) (l []Input) {
	for _, ops := range calls {
		for _, picks := range [][]api.Pick{nil, Turns(0, 1), Turns(0, 9, 1, 9)} {
			l = append(l, Input{c, ops, picks})
		}
	}
	return l
}
