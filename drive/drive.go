// Package drive is layer 3: whose turn it is. See shared/doc/03-drive.md.
package drive

import "shunting/api"

// Machine asks for one access after the other, each time being told what the last one found and did; it is over when there are no more.
type Machine interface {
	Next(was uint64, done bool) (a api.Access, more bool)
	Result() (api.Code, uint32)
}

// Run: a run of calls, each one's machine being made by begin. Arg.
func Run(c api.Config, l [][]api.Op, picks []api.Pick, begin func(thread int, o api.Op, draw uint32) Machine) (api.Trace, api.Code) {
	return api.Trace{}, 0
}

// Proc: the machine of a call that does one access after the other.
func Proc(run func(do func(a api.Access) (was uint64, done bool)) (api.Code, uint32)) Machine {
	return nil
}

// Raw: a run of accesses. Arg.
func Raw(c api.Config, l [][]api.Access, picks []api.Pick) (api.Trace, api.Code) {
	return api.Trace{}, 0
}
