package ring

import (
	"testing"

	"shunting/api"
	"shunting/trial"
)

// P8.3: whatever is picked, there is an order of the calls in which each value that is got is one of the K oldest, Empty is told of an empty queue, and Full of one that has at least M less 1 times K; and it never has more than M times K.
func TestOrder(t *testing.T) {
	next := trial.Mixed(20)
	n := map[string]int{}
	for range 12000 {
		in := trial.Few(next, api.Ring)
		x, e := Run(in.Config, in.Calls, in.Picks)
		if e != api.OK || !trial.Orderly(in.Config, x.Calls) {
			t.Fatalf("%+v: %+v %v", in, x.Calls, e)
		}
		trial.Counts(n, x)
	}
	if n["nothing to get"] < 1000 || n["no room"] < 1000 {
		t.Errorf("just %v", n)
	}
}

// P8.3 and P2, at length: no value is made up, got twice or lost; one that is got has fewer than K that are surely older; Empty is told when none is surely there, Full when there may be as many as it takes, and no more are there than may be.
func TestOldest(t *testing.T) {
	next := trial.Mixed(22)
	most := map[int]int{} // how many older ones a value had, at most, by K
	n := map[string]int{}
	for i := range 60 {
		in := trial.Many(next, api.Ring, []int{1, 2, 4, 16, 64}[i%5])
		if i%2 == 0 {
			in.Config.M = 2 + next(4) // lest it is never full
		}
		c := in.Config
		x, e := Run(c, in.Calls, in.Picks)
		values, wrong := trial.Lives(x)
		if e != api.OK || wrong != "" {
			t.Fatalf("%v, %s: %v %+v", e, wrong, c, x.Calls)
		}
		older, wrong := trial.Ahead(c, x, values)
		if wrong != "" {
			t.Fatalf("%s: %v %+v", wrong, c, x.Calls)
		}
		most[c.K] = max(most[c.K], older)
		if s := trial.Crowded(c, x, values); s != "" {
			t.Fatalf("%s: %v %+v", s, c, x.Calls)
		}
		if s := trial.Drained(c, x, values); s != "" {
			t.Fatalf("%s: %v %+v", s, c, x.Calls)
		}
		trial.Counts(n, x)
	}
	if most[2] < 1 || most[4] < 2 || most[16] < 8 || most[64] < 8 {
		t.Errorf("values had at most so many older ones, by K: %v", most)
	}
	if n["no room"] < 50 {
		t.Errorf("just %v", n)
	}
}
