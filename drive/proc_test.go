package drive

import (
	"testing"

	"shunting/api"
)

// read and put are accesses that tests ask for, told apart by n.
func read(n int) api.Access { return api.Access{Do: api.Read, Area: api.Slot, At: n} }

func put(n int) api.Access { return api.Access{Do: api.Write, Area: api.Slot, At: n, New: 9} }

// asks holds a machine's next access, being told was and done, against a.
func asks(t *testing.T, m Machine, was uint64, done bool, a api.Access) {
	t.Helper()
	if b, more := m.Next(was, done); !more || b != a {
		t.Errorf("Next(%v, %v): %v %v, not %v", was, done, b, more, a)
	}
}

// ends asks for an access that there isn't, more than once, and holds the result against e and out.
func ends(t *testing.T, m Machine, was uint64, done bool, e api.Code, out uint32) {
	t.Helper()
	for range 3 {
		if b, more := m.Next(was, done); more || b != (api.Access{}) {
			t.Errorf("Next(%v, %v) behind the last one: %v %v", was, done, b, more)
		}
		if f, n := m.Result(); f != e || n != out {
			t.Errorf("Result: %v %v, not %v %v", f, n, e, out)
		}
	}
}

// A call that is told as a whole: its accesses in order, each told ahead of the next one, by which it chooses.
func TestProc(t *testing.T) {
	call := func(do func(a api.Access) (was uint64, done bool)) (api.Code, uint32) {
		sum := uint32(0)
		for n := 0; ; n++ {
			was, _ := do(read(n))
			sum = sum*10 + uint32(was)
			if was > 5 {
				break
			}
		}
		if _, done := do(put(7)); done {
			return api.Full, sum
		}
		return api.NoMem, sum
	}
	for i, told := range [][]uint64{{6}, {1, 2, 7}, {5, 0, 5, 8}} {
		m := Proc(call)
		was, out := uint64(99), uint32(0)
		for n, w := range told {
			asks(t, m, was, n%2 == 0, read(n))
			if e, x := m.Result(); e != api.OK || x != 0 {
				t.Errorf("Result ahead of the end: %v %v", e, x)
			}
			was, out = w, out*10+uint32(w)
		}
		asks(t, m, was, false, put(7))
		if i%2 == 0 {
			ends(t, m, 3, true, api.Full, out)
		} else {
			ends(t, m, 3, false, api.NoMem, out)
		}
	}
}

// Two machines of one call, in turns: neither is told what the other one was.
func TestProcTwo(t *testing.T) {
	call := func(do func(a api.Access) (was uint64, done bool)) (api.Code, uint32) {
		one, _ := do(read(1))
		two, _ := do(read(int(one)))
		return api.OK, uint32(one*10 + two)
	}
	m, n := Proc(call), Proc(call)
	asks(t, m, 0, false, read(1))
	asks(t, n, 0, false, read(1))
	asks(t, m, 4, false, read(4))
	asks(t, n, 5, false, read(5))
	ends(t, n, 7, false, api.OK, 57)
	ends(t, m, 6, false, api.OK, 46)
}

// A call is gone through once for each access, and once more; not any more, once it is over or was stopped.
func TestProcRuns(t *testing.T) {
	for stopped := range 4 {
		runs := 0
		m := Proc(func(do func(a api.Access) (was uint64, done bool)) (api.Code, uint32) {
			runs++
			do(read(0))
			do(read(1))
			return api.OK, 5
		})
		for range stopped {
			m.Next(0, false)
		}
		m.(stopper).Stop()
		m.Next(0, false)
		m.Next(0, false)
		if runs != stopped {
			t.Errorf("%d times, not %d", runs, stopped)
		}
		over := Proc(func(do func(a api.Access) (was uint64, done bool)) (api.Code, uint32) {
			runs++
			return api.OK, 5
		})
		ends(t, over, 0, false, api.OK, 5)
		if runs != stopped+1 {
			t.Errorf("%d times, not once, of no accesses", runs-stopped)
		}
	}
}

// A call of no accesses; one that is none; those that panic, ahead of an access, between two, and behind the last one.
func TestProcBroken(t *testing.T) {
	ends(t, Proc(func(do func(a api.Access) (was uint64, done bool)) (api.Code, uint32) { return api.Empty, 3 }), 0, false, api.Empty, 3)
	ends(t, Proc(nil), 0, false, api.Arg, 0)
	for n := range 4 {
		m := Proc(func(do func(a api.Access) (was uint64, done bool)) (api.Code, uint32) {
			for i := range n {
				do(read(i))
			}
			panic("broken")
		})
		for i := range n {
			asks(t, m, 0, false, read(i))
		}
		ends(t, m, 0, false, api.Arg, 0)
	}
}

// A call that catches what it is left by, goes on no further for that.
func TestProcCatches(t *testing.T) {
	m := Proc(func(do func(a api.Access) (was uint64, done bool)) (api.Code, uint32) {
		try := func(a api.Access) (was uint64) {
			defer func() { _ = recover() }()
			was, _ = do(a)
			return was
		}
		return api.OK, uint32(try(read(1))*10 + try(read(2)))
	})
	asks(t, m, 0, false, read(1))
	asks(t, m, 3, false, read(2))
	if e, out := m.Result(); e != api.OK || out != 0 {
		t.Errorf("Result ahead of the end: %v %v", e, out)
	}
	ends(t, m, 4, false, api.OK, 34)
}

// Ways: a machine of Proc can be stopped: ahead of its first access, in its midst, and behind its end. It asks for nothing any more, and keeps how it came out.
func TestProcStop(t *testing.T) {
	for n := range 4 {
		m := Proc(func(do func(a api.Access) (was uint64, done bool)) (api.Code, uint32) {
			do(read(0))
			do(read(1))
			return api.Full, 8
		})
		over := n == 3
		for i := range n {
			if _, more := m.Next(0, false); more != (i < 2) {
				t.Fatalf("%d: more %v", i, more)
			}
		}
		m.(stopper).Stop()
		if over {
			ends(t, m, 0, false, api.Full, 8)
		} else {
			ends(t, m, 0, false, api.OK, 0)
		}
	}
}
