package scope

import (
	"slices"

	"brazier/api"
)

// scope is that of the innermost function. It is written into at once: it moves when another one comes.
func (r *resolver) scope() *api.Scope { return &r.told.Scopes[r.here.number] }

// declare gives the innermost block the node's name, as a variable with the function's next slot.
func (r *resolver) declare(n api.Node, kind int) {
	if _, twice := r.blocks[len(r.blocks)-1][n.Name]; twice {
		panic(fault{n.At, api.ErrScopeTwice})
	}
	slot := r.scope().Vars
	if slot >= api.MaxVars { // a function's own name may have made them one more
		panic(fault{n.At, api.ErrScopeMany})
	}
	r.scope().Vars++
	r.variable(n, kind, slot)
}

// variable gives the innermost block the node's name, with that slot.
func (r *resolver) variable(n api.Node, kind, slot int) {
	last := len(r.blocks) - 1
	if r.blocks[last] == nil {
		r.blocks[last] = block{}
	}
	r.blocks[last][n.Name] = len(r.told.Vars)
	r.told.Vars = append(r.told.Vars, api.Var{Name: n.Name, At: n.At, Kind: kind, Func: r.here.number, Slot: slot})
}

// find tells a name's place in Vars, or -1 of a builtin, and whether it is one of these.
func (r *resolver) find(name string) (int, bool) {
	for _, names := range slices.Backward(r.blocks) {
		if place, ok := names[name]; ok {
			return place, true
		}
	}
	_, ok := Builtin(name)
	return -1, ok
}

// use tells what find does.
func (r *resolver) use(n api.Node) int {
	place, ok := r.find(n.Name)
	if !ok {
		panic(fault{n.At, api.ErrScopeName})
	}
	r.told.Uses = append(r.told.Uses, api.Use{At: n.At, Var: place})
	if place >= 0 && r.told.Vars[place].Func != r.here.number {
		r.told.Vars[place].Captured = true
	}
	return place
}

// give goes through what gives something to its first kid.
func (r *resolver) give(n api.Node) {
	to := n.Kids[0]
	if to.Kind != api.NodeName {
		r.each(n.Kids)
		return
	}
	if r.stays(r.use(to)) {
		panic(fault{to.At, api.ErrScopeConst})
	}
	r.each(n.Kids[1:])
}

// stays tells whether nothing can be given to what has that place.
func (r *resolver) stays(place int) bool {
	if place < 0 {
		return true
	}
	kind := r.told.Vars[place].Kind
	return kind == api.VarConst || kind == api.VarSelf
}
