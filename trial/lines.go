package trial

import "shunting/api"

// Lines is a machine that stands in a call of layer 4 or 5 at a line, as their chapters number it. A chain's lines and a Give's are gone through in the midst of others. It owes the layers nothing: their runs, and those of the layers above, are held against it.
type Lines struct {
	line            string // "": ahead of the first one
	first           string
	thread, threads int
	ref             uint64 // of what is retired, or was taken
	e, g, w, l, f   uint64 // what was read last, by the chapters' letters
	pin             int    // whose pin is read next
	low             uint64 // of what is given back
	behind          string // the line behind what is freed
}

// over is the line behind the last one.
const over = "over"

// Low has the bits of a word's low number.
const Low = 1<<32 - 1

// Takes takes a segment.
func Takes() *Lines { return &Lines{first: "take 1"} }

// Gives gives a segment back.
func Gives(ref uint64) *Lines {
	return &Lines{first: "give 1", l: ref &^ Low, low: ref & Low, behind: over}
}

// Holds pins a thread.
func Holds(thread int) *Lines { return &Lines{first: "hold 1", thread: thread} }

// Drops lets go of a thread's pin.
func Drops(thread int) *Lines { return &Lines{first: "drop 1", thread: thread} }

// Retires retires a segment.
func Retires(ref uint64) *Lines { return &Lines{first: "retire 1", ref: ref} }

// Collects collects, of so many threads.
func Collects(threads int) *Lines { return &Lines{first: "collect 1", threads: threads} }

// Taken is a reference to what was taken; 0: nothing.
func (p *Lines) Taken() uint64 { return p.ref }

// Next goes on to the next line, by what the access of the last one was told.
func (p *Lines) Next(was uint64, done bool) (api.Access, bool) {
	if p.line == "" {
		p.line = p.first
	} else {
		p.line = p.hears(was, done)
	}
	return p.asks(), p.line != over
}

// Result is that of a call of layer 5.
func (p *Lines) Result() (api.Code, uint32) { return api.OK, 0 }

// asks is the access that the line tells.
func (p *Lines) asks() api.Access {
	switch p.line {
	case "take 1", "give 1":
		return Read(api.Free, 0)
	case "take 2":
		return Read(api.Link, int(p.f&Low)-1)
	case "take 3":
		return Swap(api.Free, 0, p.f, p.f&^Low+1<<32|p.l&Low)
	case "give 2":
		return Write(api.Link, int(p.low)-1, p.l&^Low|p.f&Low)
	case "give 3":
		return Swap(api.Free, 0, p.f, p.f&^Low+1<<32|p.low)
	case "chain 1":
		return Read(api.Link, int(p.low)-1)
	case "hold 1", "hold 3", "retire 1", "collect 1", "collect 4":
		return Read(api.Epoch, 0)
	case "hold 2":
		return Write(api.Pin, p.thread, p.e+1)
	case "drop 1":
		return Write(api.Pin, p.thread, 0)
	case "retire 2":
		return Read(api.Limbo, int(p.g%3))
	case "retire 3":
		return Swap(api.Limbo, int(p.g%3), p.w, p.w&^Low)
	case "retire 4":
		return Write(api.Link, int(p.ref&Low)-1, p.ref&^Low+1<<32|p.w&Low)
	case "retire 5":
		return Swap(api.Limbo, int(p.g%3), p.w, p.g<<32|p.ref&Low)
	case "collect 2":
		return Read(api.Pin, p.pin)
	case "collect 3":
		return Swap(api.Epoch, 0, p.g, p.g+1)
	case "collect 5":
		return Read(api.Limbo, int((p.g+1)%3))
	case "collect 6":
		return Swap(api.Limbo, int((p.g+1)%3), p.w, p.w&^Low)
	}
	return api.Access{}
}

// hears is the line behind one.
func (p *Lines) hears(was uint64, done bool) string {
	switch p.line[:4] {
	case "take":
		return p.takes(was, done)
	case "give", "chai":
		return p.frees(was, done)
	case "reti":
		return p.retires(was, done)
	case "coll":
		return p.collects(was, done)
	}
	switch p.line {
	case "hold 1":
		p.e = was
		return "hold 2"
	case "hold 2":
		return "hold 3"
	case "hold 3":
		if was != p.e {
			p.e = was
			return "hold 2"
		}
	}
	return over
}

// takes is the line behind one of a Take's.
func (p *Lines) takes(was uint64, done bool) string {
	switch p.line {
	case "take 1":
		p.f = was
		if was&Low == 0 {
			return over
		}
		return "take 2"
	case "take 2":
		p.l = was
		return "take 3"
	}
	if !done {
		return "take 1"
	}
	p.ref = p.l&^Low | p.f&Low
	return over
}

// retires is the line behind one of a Retire's own.
func (p *Lines) retires(was uint64, done bool) string {
	switch p.line {
	case "retire 1":
		p.g = was
		return "retire 2"
	case "retire 2":
		p.w = was
		if was&Low != 0 && was>>32 != p.g&Low {
			return "retire 3"
		}
		return "retire 4"
	case "retire 3":
		return p.chain(done, "retire 2")
	case "retire 4":
		return "retire 5"
	}
	if !done {
		return "retire 2"
	}
	return over
}

// collects is the line behind one of a Collect's own.
func (p *Lines) collects(was uint64, done bool) string {
	switch p.line {
	case "collect 1":
		p.g = was
		return "collect 2"
	case "collect 2":
		p.pin++
		if was != 0 && was != p.g+1 {
			return "collect 4"
		}
		if p.pin == p.threads {
			return "collect 3"
		}
		return "collect 2"
	case "collect 3":
		return "collect 4"
	case "collect 4":
		p.g = was
		return "collect 5"
	case "collect 5":
		p.w = was
		if was&Low != 0 && was>>32+2 <= p.g {
			return "collect 6"
		}
		return over
	}
	return p.chain(done, over)
}

// chain is the line by which w's chain is freed, if it was had; else, or when it is freed, behind comes.
func (p *Lines) chain(had bool, behind string) string {
	p.low, p.behind = p.w&Low, behind
	if had {
		return "chain 1"
	}
	return behind
}

// frees is the line behind one of a chain's, or of a Give's: it is a chain of one, whose life is handed in.
func (p *Lines) frees(was uint64, done bool) string {
	switch p.line {
	case "chain 1":
		p.l = was
		return "give 1"
	case "give 1":
		p.f = was
		return "give 2"
	case "give 2":
		return "give 3"
	}
	if !done {
		return "give 1"
	}
	p.low = p.l & Low
	if p.low == 0 {
		return p.behind
	}
	return "chain 1"
}
