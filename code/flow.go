package code

import (
	"slices"

	"brazier/api"
)

// goesOn tells whether an instruction may be followed by the one behind it.
func goesOn(op int) bool {
	return op != api.OpReturn && op != api.OpThrow && op != api.OpJump
}

// jump is the place to which an instruction jumps. It is told as it stands there: the code need not be right.
func jump(i api.Instr) (int, bool) {
	switch i.Op {
	case api.OpJump:
		return i.A, true
	case api.OpJumpIf, api.OpJumpNot:
		return i.B, true
	}
	return 0, false
}

// catcher is where code goes on when something is thrown at a place: the inner Handlers come first.
func catcher(handlers []api.Handler, at int) (int, bool) {
	for _, h := range handlers {
		if h.From <= at && at < h.To {
			return h.Target, true
		}
	}
	return 0, false
}

func rising(places []int) []int {
	slices.Sort(places)
	return slices.Compact(places)
}
