package emit

import (
	"slices"

	"brazier/api"
)

// ending is a finally, whose block stands in the code but once. Behind it things go on in the first of the ways out whose flag is false; if all flags are true, just on. Its registers (that of what was returned or thrown, then a flag for each way) lie where those of the try's blocks do: who comes to the finally needs those no more.
type ending struct {
	value int
	ways  []way
}

// way is one out of a try: to an exit (what is thrown has none), by jumps to the finally, and by what goes on from behind it.
type way struct {
	exit
	jumps  []int
	onward func()
}

func (e *ending) flag(way int) int { return e.value + 1 + way }

func (f *function) try(n api.Node) {
	if n.Kids[2].Kind == 0 {
		f.guarded(n)
		return
	}
	e := &ending{value: f.top}
	f.open(frame{ending: e})
	from := f.here()
	f.guarded(n)
	f.shut()
	over := f.emit(api.OpJump)
	f.handle(from, over)
	f.emit(api.OpCatch, e.value)
	thrown := f.emit(api.OpJump)
	e.ways = append(e.ways, way{jumps: []int{thrown}, onward: func() { f.emit(api.OpThrow, e.value) }})
	f.aim(f.here(), over)
	f.choose(e)
	f.finish(e, n.Kids[2])
}

// guarded is a try's block, and its catch, if it has one.
func (f *function) guarded(n api.Node) {
	from := f.here()
	f.block(n.Kids[0])
	if n.Kids[1].Kind == 0 {
		return
	}
	over := f.emit(api.OpJump)
	f.handle(from, over)
	mark := f.top
	f.fresh(f.variable(n), func(to int) { f.emit(api.OpCatch, to) })
	f.items(n.Kids[1].Kids)
	f.top = mark
	f.aim(f.here(), over)
}

// handle lets what is thrown in a stretch come here; in an empty one nothing is.
func (f *function) handle(from, to int) {
	if from < to {
		f.told.Handlers = append(f.told.Handlers, api.Handler{From: from, To: to, Target: f.here()})
	}
}

// leaveBy goes an exit by a finally that stands on it.
func (f *function) leaveBy(e *ending, x exit, value int) {
	if x.kind == api.NodeReturn {
		f.move(e.value, value)
	}
	i := slices.IndexFunc(e.ways, func(w way) bool { return w.exit == x })
	if i < 0 {
		i = len(e.ways)
		e.ways = append(e.ways, way{exit: x, onward: func() { f.leave(x, e.value) }})
	}
	e.ways[i].jumps = append(e.ways[i].jumps, f.emit(api.OpJump))
}

// choose sets the flags: from here on for what just goes on, all of them; for a way its own, and then those ahead of it.
func (f *function) choose(e *ending) {
	trues := make([]int, len(e.ways))
	for i := range slices.Backward(e.ways) {
		trues[i] = f.emit(api.OpSmall, e.flag(i), api.SmallTrue)
	}
	over := f.emit(api.OpJump)
	for i, w := range slices.Backward(e.ways) {
		f.aim(f.here(), w.jumps...)
		f.emit(api.OpSmall, e.flag(i), api.SmallFalse)
		if i > 0 {
			f.emit(api.OpJump, trues[i-1])
		}
	}
	f.aim(f.here(), over)
}

// finish is a finally's block, and what goes on behind it.
func (f *function) finish(e *ending, block api.Node) {
	f.take(1 + len(e.ways))
	f.block(block)
	for i, w := range e.ways {
		over := f.emit(api.OpJumpIf, e.flag(i))
		w.onward()
		f.aim(f.here(), over)
	}
}
