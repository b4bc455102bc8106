package emit

import "brazier/api"

func (f *function) block(n api.Node) {
	mark := f.top
	f.items(n.Kids)
	f.top = mark
}

// items are those of a block that has begun: its names are declared, then its functions made, which may take along any of them.
func (f *function) items(items []api.Node) {
	for _, n := range items {
		if n.Kind == api.NodeLet || n.Kind == api.NodeConst || n.Kind == api.NodeDeclare {
			f.declare(f.variable(n))
		}
	}
	for _, n := range items {
		if n.Kind == api.NodeDeclare {
			f.begin(f.variable(n), func(to int) { f.emit(api.OpClosure, to, f.closure(n, f)) })
		}
	}
	for _, n := range items {
		f.stmt(n)
	}
}

func (f *function) stmt(n api.Node) {
	mark := f.top
	switch n.Kind {
	case api.NodeLet, api.NodeConst:
		f.begin(f.variable(n), func(to int) { f.into(n.Kids[0], to) })
	case api.NodeReturn:
		f.giveBack(n.Kids[0])
	case api.NodeIf:
		f.either(n)
	case api.NodeWhile, api.NodeFor, api.NodeForOf:
		f.loop(n, nil)
	case api.NodeBreak, api.NodeContinue:
		f.leave(exit{n.Kind, n.Name}, 0)
	case api.NodeLabel:
		f.label(n)
	case api.NodeThrow:
		f.emit(api.OpThrow, f.value(n.Kids[0]))
	case api.NodeTry:
		f.try(n)
	case api.NodeBlock:
		f.block(n)
	case api.NodeExpr:
		f.value(n.Kids[0])
	}
	f.top = mark
}

// giveBack returns a value, or undefined.
func (f *function) giveBack(n api.Node) {
	f.leave(exit{kind: api.NodeReturn}, f.value(n))
}

// unless jumps, if a value is not truthy.
func (f *function) unless(n api.Node) int {
	t := f.value(n)
	f.top = t
	return f.emit(api.OpJumpNot, t)
}

func (f *function) either(n api.Node) {
	other := f.unless(n.Kids[0])
	f.stmt(n.Kids[1])
	if n.Kids[2].Kind == 0 {
		f.aim(f.here(), other)
		return
	}
	over := f.emit(api.OpJump)
	f.aim(f.here(), other)
	f.stmt(n.Kids[2])
	f.aim(f.here(), over)
}
