package scope

import "brazier/api"

// resolver goes through a tree from the left; what it has found is what is told.
type resolver struct {
	told   api.Scoped
	blocks []block  // those around, the outermost first
	here   function // the innermost one
}

// block has names, and their places in Vars; as long as it has none, it is no map yet.
type block map[string]int

type function struct {
	number int
	loops  int     // how many stand around
	labels []label // those that stand around
}

type label struct {
	name string
	loop bool // it stands at one, or at labels of one
}

func (r *resolver) open() { r.blocks = append(r.blocks, nil) }

func (r *resolver) shut() { r.blocks = r.blocks[:len(r.blocks)-1] }

func (r *resolver) program(n api.Node) {
	r.told.Scopes = []api.Scope{{At: n.At, Parent: -1}}
	r.block(n.Kids)
}

func (r *resolver) block(items []api.Node) {
	r.open()
	r.items(items)
	r.shut()
}

// items goes through a block's own statements; the block is open, and has what is declared ahead of them.
func (r *resolver) items(items []api.Node) {
	for _, n := range items {
		switch n.Kind {
		case api.NodeLet:
			r.declare(n, api.VarLet)
		case api.NodeConst:
			r.declare(n, api.VarConst)
		case api.NodeDeclare:
			r.declare(n, api.VarFunction)
		}
	}
	r.each(items)
}

func (r *resolver) each(nodes []api.Node) {
	for _, n := range nodes {
		r.node(n)
	}
}

func (r *resolver) node(n api.Node) {
	switch n.Kind {
	case api.NodeName:
		r.use(n)
	case api.NodeAssign, api.NodeUpdate:
		r.give(n)
	case api.NodeFunction, api.NodeDeclare:
		r.function(n)
	case api.NodeBlock:
		r.block(n.Kids)
	case api.NodeTry:
		r.try(n)
	case api.NodeWhile, api.NodeFor:
		r.loop(n.Kids)
	case api.NodeForOf:
		r.loopOf(n)
	case api.NodeLabel:
		r.label(n)
	case api.NodeBreak, api.NodeContinue:
		r.jump(n)
	case api.NodeReturn:
		r.leave(n)
	default:
		r.each(n.Kids)
	}
}

func (r *resolver) function(n api.Node) {
	if len(r.told.Scopes) == api.MaxFuncs {
		panic(fault{n.At, api.ErrScopeMany})
	}
	body := len(n.Kids) - 1
	around := r.here
	r.here = function{number: len(r.told.Scopes)}
	r.told.Scopes = append(r.told.Scopes, api.Scope{At: n.At, Parent: around.number, Params: body})
	r.open()
	if hasSelf(n) {
		r.variable(n, api.VarSelf, body)
	}
	r.open()
	for _, param := range n.Kids[:body] {
		r.declare(param, api.VarParam)
	}
	if hasSelf(n) {
		r.scope().Vars++
	}
	r.items(n.Kids[body].Kids)
	r.shut()
	r.shut()
	r.here = around
}

func (r *resolver) try(n api.Node) {
	r.node(n.Kids[0])
	if catch := n.Kids[1]; catch.Kind != 0 {
		r.open()
		r.declare(n, api.VarCatch)
		r.items(catch.Kids)
		r.shut()
	}
	r.node(n.Kids[2])
}

func (r *resolver) loop(parts []api.Node) {
	r.here.loops++
	r.each(parts)
	r.here.loops--
}

func (r *resolver) loopOf(n api.Node) {
	r.node(n.Kids[0])
	r.open()
	if n.Op == "const" {
		r.declare(n, api.VarConst)
	} else {
		r.declare(n, api.VarLet)
	}
	r.loop(n.Kids[1:])
	r.shut()
}
