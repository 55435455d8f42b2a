package drive

import "shunting/api"

// proc is the machine of a call that is told as a whole. A call can't be left in its midst and gone on with later: so what its accesses found is kept, and the call is gone through anew, up to the first access that wasn't done yet.
type proc struct {
	run   func(do func(a api.Access) (was uint64, done bool)) (api.Code, uint32)
	found []finding
	asked bool // an access was asked for, and what it found isn't told yet
	over  bool
	code  api.Code
	out   uint32
}

// finding is what an access found and did.
type finding struct {
	was  uint64
	done bool
}

// pause is what a call is left by at an access that wasn't done yet.
type pause struct{}

// Proc: the machine of a call that does one access after the other. It goes through run once for each access, and once more: so run must do the same each time, as long as do tells the same, and nothing beside. If run panics by itself, the machine is over with Arg and 0.
func Proc(run func(do func(a api.Access) (was uint64, done bool)) (api.Code, uint32)) Machine {
	return &proc{run: run}
}

// Next: the next access. What is told ahead of the first one has no say.
func (p *proc) Next(was uint64, done bool) (a api.Access, more bool) {
	if p.over {
		return api.Access{}, false
	}
	if p.asked {
		p.found = append(p.found, finding{was, done})
	}
	a, p.asked = p.through()
	if !p.asked {
		p.end()
	}
	return a, p.asked
}

// Result: how the call came out; OK and 0 as long as it isn't over.
func (p *proc) Result() (api.Code, uint32) { return p.code, p.out }

// Stop: the call isn't gone on with.
func (p *proc) Stop() { p.end() }

// end lets go of what was kept to go on.
func (p *proc) end() {
	p.over, p.run, p.found = true, nil, nil
}

// through goes through the call, and answers its first access that wasn't done yet; or none, how it came out being noted then.
func (p *proc) through() (next api.Access, more bool) {
	defer func() {
		if recover() != nil && !more {
			p.code, p.out = api.Arg, 0
		}
	}()
	n := 0
	code, out := p.run(func(a api.Access) (was uint64, done bool) {
		if n == len(p.found) {
			// A call that catches the pause may ask for more: that isn't what is next.
			if !more {
				next, more = a, true
			}
			panic(pause{})
		}
		f := p.found[n]
		n++
		return f.was, f.done
	})
	if !more {
		p.code, p.out = code, out
	}
	return next, more
}
