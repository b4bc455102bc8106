package emit

import "brazier/api"

// label gathers the labels that stand one behind the other: a way to one is a way to all.
func (f *function) label(n api.Node) {
	var labels []string
	for ; n.Kind == api.NodeLabel; n = n.Kids[0] {
		labels = append(labels, n.Name)
	}
	if n.Kind == api.NodeWhile || n.Kind == api.NodeFor || n.Kind == api.NodeForOf {
		f.loop(n, labels)
		return
	}
	here := f.open(frame{labels: labels})
	f.stmt(n)
	f.shut()
	f.aim(f.here(), here.breaks...)
}

func (f *function) loop(n api.Node, labels []string) {
	switch n.Kind {
	case api.NodeWhile:
		f.rounds(n.Kids[0], api.Node{}, n.Kids[1], labels)
	case api.NodeFor:
		f.aside(n.Kids[0])
		f.rounds(n.Kids[1], n.Kids[2], n.Kids[3], labels)
	default:
		f.loopOf(n, labels)
	}
}

// aside reckons an expression, if there is one, whose value nobody asks for.
func (f *function) aside(n api.Node) {
	if n.Kind != 0 {
		f.top = f.value(n)
	}
}

// rounds are done as long as the test, if there is one, is truthy.
func (f *function) rounds(test, after, body api.Node, labels []string) {
	first := f.here()
	var out []int
	if test.Kind != 0 {
		out = append(out, f.unless(test))
	}
	here := f.body(body, labels)
	f.aim(f.here(), here.continues...)
	f.aside(after)
	f.emit(api.OpJump, first)
	f.aim(f.here(), out...)
	f.aim(f.here(), here.breaks...)
}

// body is a loop's; it tells the ways out of it.
func (f *function) body(n api.Node, labels []string) *frame {
	here := f.open(frame{labels: labels, loop: true})
	f.stmt(n)
	f.shut()
	return here
}

// loopOf keeps the iterator and its next below the variable.
func (f *function) loopOf(n api.Node, labels []string) {
	iterator := f.temp()
	next := f.value(n.Kids[0])
	f.getText(iterator, next, iterator, "$$iterator")
	f.emit(api.OpCall, iterator, iterator, 0)
	f.emit(api.OpIterable, iterator)
	f.getText(next, iterator, next, "next")
	first, out := f.here(), 0
	f.fresh(f.variable(n), func(to int) { out = f.round(iterator, next, to) })
	here := f.body(n.Kids[1], labels)
	f.aim(first, here.continues...)
	f.emit(api.OpJump, first)
	f.aim(f.here(), out)
	f.aim(f.here(), here.breaks...)
}

// round asks the iterator; it tells the jump to the loop's end. It calls from the variable's register on, which is not of use yet.
func (f *function) round(iterator, next, to int) int {
	told, t := next+1, next+2
	f.needs(t + 1)
	f.emit(api.OpMove, told, next)
	f.emit(api.OpMove, t, iterator)
	f.emit(api.OpCall, told, told, 0)
	f.emit(api.OpIterable, told)
	f.getText(t, told, t, "done")
	out := f.emit(api.OpJumpIf, t)
	f.getText(to, told, t, "value")
	return out
}

// getText reads a property that no place of the tree names: OpGetNamed stands for those that one does.
func (f *function) getText(to, object, t int, key string) {
	f.emit(api.OpConst, t, f.text(key))
	f.emit(api.OpGet, to, object, t)
}
