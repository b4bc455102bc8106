package emit

import (
	"strings"

	"brazier/api"
)

// one is the number that ++ adds, as bits.
const one = 0x3ff0000000000000

func (f *function) assign(n api.Node, to int) {
	left, right := n.Kids[0], n.Kids[1]
	if left.Kind == api.NodeName {
		if n.Op != "=" {
			f.name(left, to)
		}
		f.change(n.Op, right, to)
		f.give(left, to)
		return
	}
	m := f.member(left, f.temp())
	if n.Op != "=" {
		f.get(m, to)
	}
	f.change(n.Op, right, to)
	f.set(m, to)
}

// change makes of what is in a register what is to be given by an assignment.
func (f *function) change(op string, right api.Node, to int) {
	if op == "=" {
		f.into(right, to)
		return
	}
	f.operate(strings.TrimSuffix(op, "="), to, f.value(right))
}

func (f *function) update(n api.Node, to int) {
	left := n.Kids[0]
	if left.Kind == api.NodeName {
		f.name(left, to)
		f.give(left, f.step(n, to))
		return
	}
	m := f.member(left, f.temp())
	f.get(m, to)
	f.set(m, f.step(n, to))
}

// step makes a register's value the one that an update tells, and tells the register of the one that is to be given.
func (f *function) step(n api.Node, old int) int {
	f.makeNumber(old)
	t := f.temp()
	f.emit(api.OpConst, t, f.number(one))
	next := t
	if n.Name == "pre" {
		next = old
	}
	f.emit(f.signs[n.Op[:1]], next, old, t)
	return next
}
