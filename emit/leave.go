package emit

import (
	"slices"

	"brazier/api"
)

// exit is a way out of a statement: NodeBreak or NodeContinue (and of what), or NodeReturn.
type exit struct {
	kind int
	name string
}

// frame is what an exit meets on its way: a loop, a statement with labels, or (ending) what has a finally around it.
type frame struct {
	labels    []string
	loop      bool
	breaks    []int
	continues []int
	ending    *ending
}

func (f *function) open(here frame) *frame {
	f.frames = append(f.frames, &here)
	return &here
}

func (f *function) shut() { f.frames = f.frames[:len(f.frames)-1] }

// stops tells whether an exit leads here.
func (here *frame) stops(x exit) bool {
	if x.kind == api.NodeReturn || x.kind == api.NodeContinue && !here.loop {
		return false
	}
	if x.name == "" {
		return here.loop
	}
	return slices.Contains(here.labels, x.name)
}

// leave goes an exit, as far as the first finally on it; what is returned is in a register.
func (f *function) leave(x exit, value int) {
	for _, here := range slices.Backward(f.frames) {
		if here.ending != nil {
			f.leaveBy(here.ending, x, value)
			return
		}
		if here.stops(x) {
			here.jump(x, f.emit(api.OpJump))
			return
		}
	}
	f.emit(api.OpReturn, value)
}

// jump keeps a jump until it is known where it goes.
func (here *frame) jump(x exit, place int) {
	if x.kind == api.NodeBreak {
		here.breaks = append(here.breaks, place)
	} else {
		here.continues = append(here.continues, place)
	}
}
