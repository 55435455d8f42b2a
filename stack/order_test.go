package stack

import (
	"testing"

	"shunting/api"
	"shunting/trial"
)

// P7.3: whatever is picked, there is an order of the calls in which each value that is got is one of the K youngest, and Empty is told of an empty stack.
func TestOrder(t *testing.T) {
	next := trial.Mixed(16)
	n := map[string]int{}
	for range 12000 {
		in := trial.Few(next, api.Stack)
		x, e := Run(in.Config, in.Calls, in.Picks)
		if e != api.OK || !trial.Orderly(in.Config, x.Calls) {
			t.Fatalf("%+v: %+v %v", in, x.Calls, e)
		}
		trial.Counts(n, x)
	}
	if n["nothing to get"] < 1000 || n["no segment"] < 1000 {
		t.Errorf("just %v", n)
	}
}

// P7.3, P2 and P3, at length: no value is made up, got twice or lost; one that is got has fewer than K that are surely younger; Empty is told when none is surely there; nobody looks at a slot of a free segment, and none is lost.
func TestYoungest(t *testing.T) {
	next := trial.Mixed(17)
	most := map[int]int{} // how many younger ones a value had, at most, by K
	for n := range 60 {
		in := trial.Many(next, api.Stack, []int{1, 2, 4, 16, 64}[n%5])
		c := in.Config
		x, e := Run(c, in.Calls, in.Picks)
		values, wrong := trial.Lives(x)
		if e != api.OK || wrong != "" {
			t.Fatalf("%v, %s: %v %+v", e, wrong, c, x.Calls)
		}
		younger, wrong := trial.Ahead(c, x, values)
		if wrong != "" {
			t.Fatalf("%s: %v %+v", wrong, c, x.Calls)
		}
		most[c.K] = max(most[c.K], younger)
		if s := trial.Drained(c, x, values); s != "" {
			t.Fatalf("%s: %v %+v", s, c, x.Calls)
		}
		if i := trial.Looks(c, x); i >= 0 {
			t.Fatalf("%v: %+v, of a segment that is free", c, x.Steps[i])
		}
	}
	if most[2] < 1 || most[4] < 2 || most[16] < 6 || most[64] < 8 {
		t.Errorf("values had at most so many younger ones, by K: %v", most)
	}
}
