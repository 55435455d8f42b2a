// Package trial is what the tests of several layers have in common: what runs are made of, and what holds traces against each other. No layer calls it.
package trial

import (
	"math"
	"slices"

	"shunting/api"
)

// SameMem: have both the same words? (A list without elements may be nil or empty.)
func SameMem(m, n api.Mem) bool {
	return m.Epoch == n.Epoch && m.Free == n.Free && m.Head == n.Head && m.Tail == n.Tail &&
		slices.Equal(m.Limbo, n.Limbo) && slices.Equal(m.Pins, n.Pins) &&
		slices.Equal(m.Link, n.Link) && slices.Equal(m.Next, n.Next) && slices.Equal(m.Slots, n.Slots)
}

// Same: are both the same trace?
func Same(x, y api.Trace) bool {
	return slices.Equal(x.Steps, y.Steps) && slices.Equal(x.Calls, y.Calls) && SameMem(x.End, y.End)
}

// Input is what a run is made of.
type Input struct {
	Config api.Config
	Calls  [][]api.Op
	Picks  []api.Pick
}

// Wrong are inputs that no layer runs, though it runs o by a config of this kind: each is wrong by one number of its config, by how many lists, calls or picks it has.
func Wrong(kind int, o api.Op) (l []Input) {
	right := api.Config{Kind: kind, K: 2, T: 2, M: 3}
	picks := Picked(0, 1, 0, 1, 0, 0, 1)
	for _, c := range wrongConfigs(right) {
		// As many lists as T tells, where there can be so many: then just the config is wrong.
		lists := right.T
		if c.T >= 0 && c.T < 100 {
			lists = c.T
		}
		l = append(l, Input{c, slices.Repeat([][]api.Op{{o, o}}, lists), picks})
	}
	for _, lists := range []int{0, 1, 3, 8, 9} {
		l = append(l,
			Input{right, slices.Repeat([][]api.Op{{o}}, lists), picks},
			Input{right, make([][]api.Op, lists), nil})
	}
	most, more := slices.Repeat([]api.Op{o}, api.MaxOps), slices.Repeat([]api.Op{o}, api.MaxOps+1)
	return append(l,
		Input{right, [][]api.Op{more, nil}, picks},
		Input{right, [][]api.Op{most, more}, nil},
		Input{right, [][]api.Op{{o}, nil}, make([]api.Pick, api.MaxPicks+1)},
		Input{right, [][]api.Op{nil, nil}, slices.Repeat(Picked(-1), api.MaxPicks+1)})
}

// wrongConfigs are configs that may not be, each as c but for one number; some of these would do if they were cut to fewer bits.
func wrongConfigs(c api.Config) (l []api.Config) {
	strange := []int{-1, -2, 0, 1 << 8, 1<<8 + 2, 1<<16 + 2, math.MinInt, math.MinInt + 2, math.MaxInt}
	for _, n := range append(slices.Clone(strange), 4) {
		l = append(l, api.Config{Kind: n, K: c.K, T: c.T, M: c.M})
	}
	for _, n := range append(slices.Clone(strange), api.MaxK+1) {
		l = append(l, api.Config{Kind: c.Kind, K: n, T: c.T, M: c.M})
	}
	for _, n := range append(slices.Clone(strange), api.MaxT+1) {
		l = append(l, api.Config{Kind: c.Kind, K: c.K, T: n, M: c.M})
	}
	for _, n := range append(slices.Clone(strange), 1, api.MaxM+1) {
		l = append(l, api.Config{Kind: c.Kind, K: c.K, T: c.T, M: n})
	}
	return l
}

// Meddles tells what a layer's run does that it must not: it changes what it is handed, or the spare room behind, or its answers share memory, or aren't what is wanted. "" is nothing.
func Meddles(run func(c api.Config, l [][]api.Op, picks []api.Pick) (api.Trace, api.Code), n Input, want api.Trace) string {
	calls := slices.Clone(n.Calls)
	for i := range calls {
		calls[i] = roomy(n.Calls[i])
	}
	all, picks := roomy(calls), roomy(n.Picks)
	for range 3 {
		x, e := run(n.Config, all, picks)
		if e != api.OK || !Same(x, want) {
			return "it tells something else"
		}
		scribble(x)
	}
	for i, l := range all[:2*len(calls)] {
		if k := n.Calls[i%len(calls)]; len(l) != len(k) || !doubled(l, k) {
			return "it changes the calls"
		}
	}
	if !doubled(picks, n.Picks) {
		return "it changes the picks"
	}
	return ""
}

// roomy is the same list, with its elements once more in spare room behind it.
func roomy[E any](l []E) []E { return slices.Concat(l, l)[:len(l)] }

// doubled: is a list that roomy made of k as it was, its spare room too?
func doubled[E comparable](l, k []E) bool { return slices.Equal(l[:2*len(k)], slices.Concat(k, k)) }

// scribble overwrites a trace's lists.
func scribble(x api.Trace) {
	clear(x.Steps)
	clear(x.Calls)
	for _, words := range [][]uint64{x.End.Limbo, x.End.Pins, x.End.Link, x.End.Next, x.End.Slots} {
		clear(words)
	}
}
