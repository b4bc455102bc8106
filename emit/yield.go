package emit

import "brazier/api"

// returned tells at each place, of what an OpYield says how things go on, whether it is a return. (A text that is asked for a byte tells it without a sign: those stand for places of the tree alone.)
const returned = "001"

func (f *function) yield(n api.Node, to int) {
	f.into(n.Kids[0], to)
	how, t := f.temp(), f.temp()
	f.emit(api.OpYield, to, how)
	over := f.emit(api.OpJumpNot, how)
	f.emit(api.OpText, how, how)
	f.emit(api.OpConst, t, f.text(returned))
	f.emit(api.OpGet, how, t, how)
	f.emit(api.OpNum, how, how)
	back := f.emit(api.OpJumpIf, how)
	f.emit(api.OpThrow, to)
	f.aim(f.here(), back)
	f.leave(exit{kind: api.NodeReturn}, to)
	f.aim(f.here(), over)
}
