package drive

import (
	"testing"

	"shunting/api"
)

// The layers above are built on these calls, so they are held to the chapter's signatures from the first stage on.
func TestSignatures(t *testing.T) {
	type machine = interface {
		Next(was uint64, done bool) (a api.Access, more bool)
		Result() (api.Code, uint32)
	}
	type begin = func(thread int, o api.Op, draw uint32) Machine
	type body = func(do func(a api.Access) (was uint64, done bool)) (api.Code, uint32)

	var m Machine
	var _ machine = m
	var _ Machine = machine(nil)
	var _ func(api.Config, [][]api.Op, []api.Pick, begin) (api.Trace, api.Code) = Run
	var _ func(body) Machine = Proc
	var _ func(api.Config, [][]api.Access, []api.Pick) (api.Trace, api.Code) = Raw
}
