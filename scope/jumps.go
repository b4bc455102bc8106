package scope

import (
	"slices"

	"brazier/api"
)

func (r *resolver) label(n api.Node) {
	around := r.here.labels
	if slices.ContainsFunc(around, func(l label) bool { return l.name == n.Name }) {
		panic(fault{n.At, api.ErrScopeJump})
	}
	r.here.labels = append(around, label{n.Name, leadsToLoop(n)})
	r.each(n.Kids)
	r.here.labels = around
}

// leadsToLoop tells whether a label stands at a loop, or at labels of one.
func leadsToLoop(n api.Node) bool {
	for n.Kind == api.NodeLabel {
		n = n.Kids[0]
	}
	return isLoop(n.Kind)
}

func (r *resolver) jump(n api.Node) {
	if !r.canJump(n) {
		panic(fault{n.At, api.ErrScopeJump})
	}
}

func (r *resolver) canJump(n api.Node) bool {
	if n.Name == "" {
		return r.here.loops > 0
	}
	return slices.ContainsFunc(r.here.labels, func(l label) bool {
		return l.name == n.Name && (l.loop || n.Kind == api.NodeBreak)
	})
}

func (r *resolver) leave(n api.Node) {
	if r.here.number == 0 {
		panic(fault{n.At, api.ErrScopeReturn})
	}
	r.each(n.Kids)
}
