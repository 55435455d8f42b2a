package store

import (
	"math"
	"slices"
	"testing"

	"shunting/api"
)

// areas is how many areas there are: they are numbered from 1 on.
const areas = 9

// words are m's words, area by area; those of the number 0 are none.
func words(m api.Mem) [areas + 1][]uint64 {
	return [areas + 1][]uint64{
		api.Epoch: {m.Epoch},
		api.Free:  {m.Free},
		api.Limbo: m.Limbo,
		api.Pin:   m.Pins,
		api.Head:  {m.Head},
		api.Tail:  {m.Tail},
		api.Link:  m.Link,
		api.Next:  m.Next,
		api.Slot:  m.Slots,
	}
}

// same: have both the same words? (A list without elements may be nil or empty.)
func same(m, n api.Mem) bool {
	l, k := words(m), words(n)
	for area := range l {
		if !slices.Equal(l[area], k[area]) {
			return false
		}
	}
	return true
}

// clone: m's words, in memory of their own.
func clone(m api.Mem) api.Mem {
	for _, l := range []*[]uint64{&m.Limbo, &m.Pins, &m.Link, &m.Next, &m.Slots} {
		*l = slices.Clone(*l)
	}
	return m
}

// put: m's words, but that w is at that place.
func put(m api.Mem, area, at int, w uint64) api.Mem {
	m = clone(m)
	switch area {
	case api.Epoch:
		m.Epoch = w
	case api.Free:
		m.Free = w
	case api.Head:
		m.Head = w
	case api.Tail:
		m.Tail = w
	default:
		words(m)[area][at] = w
	}
	return m
}

// spare is how many words each list that given answers has room for, behind its last one.
const spare = 3

// given are words of which no two are the same, none is 0, and each has a high and a low number; of the lists, as many as told.
func given(limbo, pins, link, next, slots int) api.Mem {
	n := uint64(0)
	one := func() uint64 {
		n++
		return n<<32 | (n + 500)
	}
	list := func(size int) []uint64 {
		l := make([]uint64, size+spare)
		for i := range l {
			l[i] = one()
		}
		return l[:size]
	}
	return api.Mem{
		Epoch: one(), Free: one(), Head: one(), Tail: one(),
		Limbo: list(limbo), Pins: list(pins), Link: list(link), Next: list(next), Slots: list(slots),
	}
}

// whole: m's words, and those in its lists' spare room.
func whole(m api.Mem) api.Mem {
	for _, l := range []*[]uint64{&m.Limbo, &m.Pins, &m.Link, &m.Next, &m.Slots} {
		*l = (*l)[:cap(*l)]
	}
	return m
}

// givens are words of ordinary numbers, of one word each, of other numbers than any config's, and of none.
func givens() []api.Mem {
	return []api.Mem{
		given(3, 2, 4, 4, 8),
		given(1, 1, 1, 1, 1),
		given(5, 9, 65, 2, 70),
		given(2, 1, 3, 0, 5),
		given(0, 0, 0, 0, 0),
		{},
	}
}

// strange are numbers that no area, way or place has, though some would be one if they were cut to fewer bits.
func strange() []int {
	return []int{-1, -2, 1<<32 + 1, 1<<32 + 2, 1 << 32, 1<<8 + 1, 1<<16 + 1, math.MaxInt32, math.MinInt32, math.MaxInt, math.MinInt}
}

// wrong are configs that may not be, each because of one number (the first one because of all).
func wrong() []api.Config {
	l := []api.Config{{}}
	for _, n := range append(strange(), 0, 4, 5) {
		l = append(l, api.Config{Kind: n, K: 1, T: 1, M: 2})
	}
	for _, n := range append(strange(), 0, 65, 128) {
		l = append(l, api.Config{Kind: api.Queue, K: n, T: 1, M: 2})
	}
	for _, n := range append(strange(), 0, 9, 64) {
		l = append(l, api.Config{Kind: api.Ring, K: 1, T: n, M: 2})
	}
	for _, n := range append(strange(), 0, 1, 65, 128) {
		l = append(l, api.Config{Kind: api.Stack, K: 1, T: 1, M: n})
	}
	return l
}

// P2.1: the four numbers' bounds.
func TestMay(t *testing.T) {
	for kind := -1; kind <= 5; kind++ {
		for k := -1; k <= 66; k++ {
			for n := -1; n <= 10; n++ {
				for m := -1; m <= 66; m++ {
					c := api.Config{Kind: kind, K: k, T: n, M: m}
					may := kind >= 1 && kind <= 3 && k >= 1 && k <= 64 && n >= 1 && n <= 8 && m >= 2 && m <= 64
					if May(c) != may {
						t.Fatalf("May(%v): %v", c, !may)
					}
				}
			}
		}
	}
	for _, c := range wrong() {
		if May(c) {
			t.Errorf("May(%v): true", c)
		}
	}
}

// P2.1: the words at first, told one by one.
func TestNewTold(t *testing.T) {
	for _, x := range []struct {
		c api.Config
		m api.Mem
	}{
		{api.Config{Kind: api.Queue, K: 2, T: 1, M: 3}, api.Mem{
			Free: 2, Limbo: []uint64{0, 0, 0}, Pins: []uint64{0}, Head: 1, Tail: 1,
			Link: []uint64{0, 3, 0}, Next: []uint64{0, 0, 0}, Slots: []uint64{0, 0, 0, 0, 0, 0},
		}},
		{api.Config{Kind: api.Ring, K: 1, T: 2, M: 2}, api.Mem{
			Limbo: []uint64{0, 0, 0}, Pins: []uint64{0, 0},
			Link: []uint64{0, 0}, Next: []uint64{0, 0}, Slots: []uint64{0, 0},
		}},
		{api.Config{Kind: api.Stack, K: 1, T: 1, M: 4}, api.Mem{
			Free: 1, Limbo: []uint64{0, 0, 0}, Pins: []uint64{0},
			Link: []uint64{2, 3, 4, 0}, Next: []uint64{0, 0, 0, 0}, Slots: []uint64{0, 0, 0, 0},
		}},
	} {
		if m, e := New(x.c); e != api.OK || !same(m, x.m) {
			t.Errorf("New(%v): %v %v, not %v", x.c, m, e, x.m)
		}
	}
}

// first: the words at first, of a config that may be.
func first(c api.Config) api.Mem {
	m := api.Mem{Limbo: make([]uint64, 3), Pins: make([]uint64, c.T), Link: make([]uint64, c.M), Next: make([]uint64, c.M), Slots: make([]uint64, c.K*c.M)}
	for n := range c.M - 1 {
		if c.Kind == api.Stack || c.Kind == api.Queue && n >= 1 {
			m.Link[n] = uint64(n + 2)
		}
	}
	switch c.Kind {
	case api.Queue:
		m.Head, m.Tail, m.Free = 1, 1, 2
	case api.Stack:
		m.Free = 1
	}
	return m
}

// configs are some of each kind, those with the least and the greatest numbers among them.
func configs() []api.Config {
	var l []api.Config
	for kind := api.Queue; kind <= api.Stack; kind++ {
		for _, k := range []int{1, 2, 7, 64} {
			for _, n := range []int{1, 3, 8} {
				for _, m := range []int{2, 3, 5, 64} {
					l = append(l, api.Config{Kind: kind, K: k, T: n, M: m})
				}
			}
		}
	}
	return l
}

// P2.1: the words at first, of ordinary configs and of the least and the greatest ones.
func TestNew(t *testing.T) {
	for _, c := range configs() {
		if m, e := New(c); e != api.OK || !same(m, first(c)) {
			t.Errorf("New(%v): %v %v", c, m, e)
		}
	}
}

// P2.1: nothing, and Arg.
func TestNewArg(t *testing.T) {
	for _, c := range wrong() {
		if m, e := New(c); e != api.Arg || !same(m, api.Mem{}) {
			t.Errorf("New(%v): %v %v", c, m, e)
		}
	}
}

// P2.1: an answer's lists are its own: what is put into one, or behind it, is in no other list and in no other answer.
func TestNewOwn(t *testing.T) {
	for kind := api.Queue; kind <= api.Stack; kind++ {
		c := api.Config{Kind: kind, K: 2, T: 2, M: 3}
		for area := 1; area <= areas; area++ {
			m, _ := New(c)
			l := words(m)[area]
			for i := range l {
				l[i] = 77
			}
			_ = append(l, 78, 79)
			for other, k := range words(m) {
				if other != area && !slices.Equal(k, words(first(c))[other]) {
					t.Errorf("New(%v): the areas %d and %d share words", c, area, other)
				}
			}
			if n, e := New(c); e != api.OK || !same(n, first(c)) {
				t.Errorf("New(%v), once an answer's area %d was changed: %v %v", c, area, n, e)
			}
		}
	}
}

// try does a on m, and holds what it tells against what is asked, and m against what it was.
func try(t *testing.T, m api.Mem, a api.Access, out api.Mem, was uint64, done bool) {
	t.Helper()
	ahead := clone(whole(m))
	o, w, d := Do(m, a)
	if !same(o, out) || w != was || d != done {
		t.Errorf("%+v: %v %#x %v, not %v %#x %v", a, o, w, d, out, was, done)
	}
	if !same(whole(m), ahead) {
		t.Errorf("%+v changed what was handed in: %v, not %v", a, whole(m), ahead)
	}
}

// P2.2: each word of each area is read, written and swapped, and no other one with it.
func TestDoEach(t *testing.T) {
	for _, m := range givens() {
		for area, l := range words(m) {
			for at, w := range l {
				n := w ^ 5<<40 ^ 9
				try(t, m, api.Access{Do: api.Read, Area: area, At: at}, m, w, false)
				try(t, m, api.Access{Do: api.Write, Area: area, At: at, New: n}, put(m, area, at, n), w, true)
				try(t, m, api.Access{Do: api.Swap, Area: area, At: at, Old: w, New: n}, put(m, area, at, n), w, true)
				try(t, m, api.Access{Do: api.Swap, Area: area, At: at, Old: w + 1, New: n}, m, w, false)
			}
		}
	}
}

// P2.2: what a way needn't has no say in it: Old and New of a Read, Old of a Write.
func TestDoNeedless(t *testing.T) {
	m := given(3, 2, 4, 4, 8)
	for area, l := range words(m) {
		for at, w := range l {
			try(t, m, api.Access{Do: api.Read, Area: area, At: at, Old: w, New: 6}, m, w, false)
			try(t, m, api.Access{Do: api.Read, Area: area, At: at, Old: 5, New: 6}, m, w, false)
			try(t, m, api.Access{Do: api.Write, Area: area, At: at, Old: w, New: 6}, put(m, area, at, 6), w, true)
			try(t, m, api.Access{Do: api.Write, Area: area, At: at, Old: 5, New: 6}, put(m, area, at, 6), w, true)
		}
	}
}

// P2.2: a Swap looks at the whole word, and puts 0, or what was there, as it puts anything; a Write likewise.
func TestDoWords(t *testing.T) {
	for _, w := range []uint64{0, 1, 1 << 32, 1<<63 | 1, math.MaxUint32, math.MaxUint64} {
		m := put(given(3, 2, 4, 4, 8), api.Slot, 3, w)
		for bit := range 64 {
			try(t, m, api.Access{Do: api.Swap, Area: api.Slot, At: 3, Old: w ^ 1<<bit, New: 7}, m, w, false)
		}
		for _, n := range []uint64{0, 7, w, ^w, math.MaxUint64} {
			behind := put(m, api.Slot, 3, n)
			try(t, m, api.Access{Do: api.Swap, Area: api.Slot, At: 3, Old: w, New: n}, behind, w, true)
			try(t, m, api.Access{Do: api.Swap, Area: api.Slot, At: 3, Old: w + 2, New: n}, m, w, false)
			try(t, m, api.Access{Do: api.Write, Area: api.Slot, At: 3, New: n}, behind, w, true)
		}
	}
}

// P2.2: there is no such area, or no such place in it: whatever the way, and also of a Swap that takes what isn't there for 0.
func TestDoNotThere(t *testing.T) {
	for _, m := range givens() {
		var l []api.Access
		for _, area := range append(strange(), 0, areas+1, areas+2) {
			for _, at := range []int{0, 1, -1} {
				l = append(l, api.Access{Area: area, At: at})
			}
		}
		for area := 1; area <= areas; area++ {
			for _, at := range append(strange(), len(words(m)[area]), len(words(m)[area])+1) {
				if at < 0 || at >= len(words(m)[area]) {
					l = append(l, api.Access{Area: area, At: at})
				}
			}
		}
		for _, a := range l {
			for _, a.Do = range []int{api.Read, api.Write, api.Swap, 0, 4} {
				for _, a.Old = range []uint64{0, 5} {
					a.New = 6
					try(t, m, a, m, 0, false)
				}
			}
		}
	}
}

// P2.2: there is no such way.
func TestDoNoWay(t *testing.T) {
	for _, m := range givens() {
		for area, l := range words(m) {
			for at, w := range l {
				for _, do := range append(strange(), 0, 4, 5) {
					try(t, m, api.Access{Do: do, Area: area, At: at, Old: w, New: 6}, m, 0, false)
					try(t, m, api.Access{Do: do, Area: area, At: at, Old: 5, New: 6}, m, 0, false)
				}
			}
		}
	}
}

// P2.2: what is told hangs on the words that are handed in, not on those of a call before it.
func TestDoAnew(t *testing.T) {
	m := given(3, 2, 4, 4, 8)
	a := api.Access{Do: api.Swap, Area: api.Next, At: 3, Old: m.Next[3], New: 6}
	for range 3 {
		try(t, m, a, put(m, api.Next, 3, 6), m.Next[3], true)
	}
}

// script are accesses to all words that a config has at first, and to some that there are not.
func script(c api.Config) []api.Access {
	var l []api.Access
	n := uint64(0)
	for area, ws := range words(first(c)) {
		for at, w := range ws {
			n++
			l = append(l,
				api.Access{Do: api.Read, Area: area, At: at},
				api.Access{Do: api.Swap, Area: area, At: at, Old: w, New: n << 32},
				api.Access{Do: api.Swap, Area: area, At: at, Old: w, New: n},
				api.Access{Do: api.Write, Area: area, At: at, New: n<<32 | n})
		}
		l = append(l,
			api.Access{Do: api.Write, Area: area, At: len(ws), New: 5},
			api.Access{Do: api.Swap, Area: area, At: -1, New: 5},
			api.Access{Do: 4, Area: area, New: 5})
	}
	return l
}

// told are the steps of accesses, as Do tells them, and the words behind all.
func told(c api.Config, accesses []api.Access) ([]api.Step, api.Mem) {
	var l []api.Step
	m := first(c)
	for i, a := range accesses {
		out, was, done := Do(m, a)
		l = append(l, api.Step{Thread: i%11 - 1, Access: a, Was: was, Done: done})
		m = out
	}
	return l, m
}

// P2.3: what Do did step by step is replayed, whoever did it, and nothing that is handed in is changed.
func TestReplay(t *testing.T) {
	for kind := api.Queue; kind <= api.Stack; kind++ {
		for _, c := range []api.Config{{Kind: kind, K: 1, T: 1, M: 2}, {Kind: kind, K: 3, T: 2, M: 4}} {
			l, end := told(c, script(c))
			extra := api.Step{Was: 88}
			l = append(l, extra, extra)
			ahead := slices.Clone(l)
			for n := range len(l) - 1 {
				_, want := told(c, script(c)[:n])
				if m, e := Replay(c, l[:n]); e != api.OK || !same(m, want) {
					t.Fatalf("Replay(%v), %d steps: %v %v, not %v", c, n, m, e, want)
				}
			}
			if m, e := Replay(c, l[:len(l)-2]); e != api.OK || !same(m, end) {
				t.Errorf("Replay(%v): %v %v, not %v", c, m, e, end)
			}
			if !slices.Equal(l, ahead) {
				t.Errorf("Replay(%v) changed the steps", c)
			}
		}
	}
}

// P2.3: of no steps, the words at first.
func TestReplayNone(t *testing.T) {
	for _, c := range configs() {
		for _, l := range [][]api.Step{nil, {}} {
			m, e := Replay(c, l)
			if e != api.OK || !same(m, first(c)) {
				t.Errorf("Replay(%v), no steps: %v %v", c, m, e)
			}
			for i := range m.Slots {
				m.Slots[i] = 77
			}
		}
	}
}

// P2.3: steps are replayed in their order, each one upon those ahead of it.
func TestReplayOrder(t *testing.T) {
	c := api.Config{Kind: api.Stack, K: 2, T: 2, M: 2}
	one := api.Step{Access: api.Access{Do: api.Write, Area: api.Head, New: 5}, Was: 0, Done: true}
	two := api.Step{Access: api.Access{Do: api.Swap, Area: api.Head, Old: 5, New: 6}, Was: 5, Done: true}
	if m, e := Replay(c, []api.Step{one, two}); e != api.OK || m.Head != 6 {
		t.Errorf("%v %v", m, e)
	}
	for _, l := range [][]api.Step{{two, one}, {two}, {one, one}, {one, two, two}} {
		if m, e := Replay(c, l); e != api.Arg || !same(m, api.Mem{}) {
			t.Errorf("%v: %v %v", l, m, e)
		}
	}
}

// P2.3: nothing, and Arg: a step's Was or Done isn't what Do tells, be it the first step, the last one, or any.
func TestReplayArg(t *testing.T) {
	for kind := api.Queue; kind <= api.Stack; kind++ {
		c := api.Config{Kind: kind, K: 2, T: 2, M: 3}
		l, _ := told(c, script(c))
		for i := range l {
			for _, change := range []func(s *api.Step){
				func(s *api.Step) { s.Was++ },
				func(s *api.Step) { s.Was ^= 1 << 63 },
				func(s *api.Step) { s.Was ^= 1 << 32 },
				func(s *api.Step) { s.Done = !s.Done },
				func(s *api.Step) { s.Was--; s.Done = !s.Done },
			} {
				k := slices.Clone(l)
				change(&k[i])
				if m, e := Replay(c, k); e != api.Arg || !same(m, api.Mem{}) {
					t.Errorf("Replay(%v), the step %d %+v: %v %v", c, i, k[i], m, e)
				}
			}
		}
	}
}

// P2.3: nothing, and Arg: the config may not be, with steps that would be told and without; or it isn't that of the steps.
func TestReplayConfig(t *testing.T) {
	c := api.Config{Kind: api.Queue, K: 1, T: 1, M: 2}
	l, _ := told(c, []api.Access{{Do: api.Read, Area: api.Head}, {Do: api.Read, Area: 10}})
	for _, c := range wrong() {
		for _, l := range [][]api.Step{nil, l, l[1:]} {
			if m, e := Replay(c, l); e != api.Arg || !same(m, api.Mem{}) {
				t.Errorf("Replay(%v), %d steps: %v %v", c, len(l), m, e)
			}
		}
	}
	for _, kind := range []int{api.Ring, api.Stack} {
		if m, e := Replay(api.Config{Kind: kind, K: 1, T: 1, M: 2}, l); e != api.Arg || !same(m, api.Mem{}) {
			t.Errorf("a Queue's steps, of the kind %d: %v %v", kind, m, e)
		}
	}
}
