package scope_test

import (
	"slices"
	"testing"

	"brazier/api"
	"brazier/scope"
)

// What Resolve is to tell is asked here in another way: all that a program does is listed first, each with its place in the tree; then it is looked for from there upwards.

// spot is a node's place in the tree.
type spot struct {
	n     api.Node
	up    *spot
	index int // among those kids
	kids  []*spot
}

func spotted(n api.Node, up *spot, index int) *spot {
	s := &spot{n: n, up: up, index: index}
	for i, k := range n.Kids {
		s.kids = append(s.kids, spotted(k, s, i))
	}
	return s
}

func (s *spot) isFunction() bool {
	return s.n.Kind == api.NodeFunction || s.n.Kind == api.NodeDeclare
}

// function is the innermost one around, not s itself; or the program.
func (s *spot) function() *spot {
	for s = s.up; s.up != nil && !s.isFunction(); {
		s = s.up
	}
	return s
}

func isLoopKind(kind int) bool {
	return kind == api.NodeWhile || kind == api.NodeFor || kind == api.NodeForOf
}

// deed is what is done at a spot: to declare (as a variable of that kind, in the block of home), to use or give a name, to meet a function, a label, a jump, a return.
type deed struct {
	what string
	at   *spot
	kind int
	home *spot
}

// deeds lists what is done, in order.
func deeds(s *spot) []deed {
	switch s.n.Kind {
	case api.NodeName:
		return []deed{{what: "use", at: s}}
	case api.NodeAssign, api.NodeUpdate:
		l := each(s.kids)
		if s.kids[0].n.Kind == api.NodeName {
			l[0].what = "give"
		}
		return l
	case api.NodeFunction, api.NodeDeclare:
		return functionDeeds(s)
	case api.NodeProgram, api.NodeBlock:
		return blockDeeds(s, s)
	case api.NodeTry:
		l := deeds(s.kids[0])
		if s.n.Kids[1].Kind != 0 {
			l = append(l, deed{"declare", s, api.VarCatch, s.kids[1]})
		}
		return slices.Concat(l, deeds(s.kids[1]), deeds(s.kids[2]))
	case api.NodeForOf:
		kind := map[string]int{"let": api.VarLet, "const": api.VarConst}[s.n.Op]
		return slices.Concat(deeds(s.kids[0]), []deed{{"declare", s, kind, s}}, deeds(s.kids[1]))
	case api.NodeLabel:
		return append([]deed{{what: "label", at: s}}, each(s.kids)...)
	case api.NodeBreak, api.NodeContinue:
		return []deed{{what: "jump", at: s}}
	case api.NodeReturn:
		return append([]deed{{what: "return", at: s}}, each(s.kids)...)
	}
	return each(s.kids)
}

func each(l []*spot) []deed {
	var all []deed
	for _, s := range l {
		all = append(all, deeds(s)...)
	}
	return all
}

func functionDeeds(s *spot) []deed {
	l := []deed{{what: "function", at: s}}
	if s.n.Kind == api.NodeFunction && s.n.Name != "" {
		l = append(l, deed{"declare", s, api.VarSelf, s})
	}
	last := len(s.kids) - 1
	for _, p := range s.kids[:last] {
		l = append(l, deed{"declare", p, api.VarParam, s.kids[last]})
	}
	return append(l, blockDeeds(s.kids[last], s.kids[last])...)
}

func blockDeeds(s, home *spot) []deed {
	var l []deed
	for _, k := range s.kids {
		if kind := map[int]int{api.NodeLet: api.VarLet, api.NodeConst: api.VarConst, api.NodeDeclare: api.VarFunction}[k.n.Kind]; kind != 0 {
			l = append(l, deed{"declare", k, kind, home})
		}
	}
	return append(l, each(s.kids)...)
}

// model does the deeds.
type model struct {
	told      api.Scoped
	functions []*spot // of the Scopes
	homes     []*spot // of the Vars
}

func (m *model) number(function *spot) int { return slices.Index(m.functions, function) }

// owner is the function whose variable it is that is declared in a home: a block's, a loop's, the function itself.
func owner(home *spot) *spot {
	if home.up == nil || home.isFunction() {
		return home
	}
	return home.function()
}

func (m *model) do(d deed) (int, api.Errno) {
	at := d.at.n.At
	switch d.what {
	case "declare":
		return m.declare(d)
	case "use", "give":
		return m.use(d)
	case "function":
		if len(m.functions) == api.MaxFuncs {
			return at, api.ErrScopeMany
		}
		m.functions = append(m.functions, d.at)
		m.told.Scopes = append(m.told.Scopes, api.Scope{At: at, Parent: m.number(d.at.function()), Params: len(d.at.kids) - 1})
	case "label":
		if slices.ContainsFunc(labelsAround(d.at), func(l *spot) bool { return l.n.Name == d.at.n.Name }) {
			return at, api.ErrScopeJump
		}
	case "jump":
		if !canJump(d.at) {
			return at, api.ErrScopeJump
		}
	case "return":
		if d.at.function().up == nil {
			return at, api.ErrScopeReturn
		}
	}
	return 0, api.OK
}

func (m *model) declare(d deed) (int, api.Errno) {
	n := d.at.n
	v := api.Var{Name: n.Name, At: n.At, Kind: d.kind, Func: m.number(owner(d.home))}
	if d.kind == api.VarSelf {
		v.Slot = len(d.at.kids) - 1
	}
	for i, old := range m.told.Vars {
		if m.homes[i] == d.home && old.Name == n.Name && old.Kind != api.VarSelf {
			return n.At, api.ErrScopeTwice
		}
		if d.kind != api.VarSelf && old.Func == v.Func && (old.Kind != api.VarSelf || d.kind != api.VarParam) {
			v.Slot++
		}
	}
	if d.kind != api.VarSelf && v.Slot >= api.MaxVars {
		return n.At, api.ErrScopeMany
	}
	m.told.Vars = append(m.told.Vars, v)
	m.homes = append(m.homes, d.home)
	return 0, api.OK
}

// whose looks from a spot upwards for the home of a variable of its name.
func (m *model) whose(s *spot) int {
	for here := s; here.up != nil; here = here.up {
		home := here.up
		if home.n.Kind == api.NodeForOf && here.index == 0 {
			continue
		}
		for i, v := range m.told.Vars {
			if m.homes[i] == home && v.Name == s.n.Name {
				return i
			}
		}
	}
	return -1
}

func (m *model) use(d deed) (int, api.Errno) {
	n := d.at.n
	v := m.whose(d.at)
	if v < 0 && !slices.Contains(builtins, n.Name) {
		return n.At, api.ErrScopeName
	}
	if d.what == "give" && (v < 0 || m.told.Vars[v].Kind == api.VarConst || m.told.Vars[v].Kind == api.VarSelf) {
		return n.At, api.ErrScopeConst
	}
	m.told.Uses = append(m.told.Uses, api.Use{At: n.At, Var: v})
	if v >= 0 && m.functions[m.told.Vars[v].Func] != d.at.function() {
		m.told.Vars[v].Captured = true
	}
	return 0, api.OK
}

func labelsAround(s *spot) []*spot {
	var l []*spot
	for f := s.function(); s != f; s = s.up {
		if s.up.n.Kind == api.NodeLabel {
			l = append(l, s.up)
		}
	}
	return l
}

func canJump(s *spot) bool {
	if s.n.Name == "" {
		for f := s.function(); s != f; s = s.up {
			if isLoopKind(s.n.Kind) {
				return true
			}
		}
		return false
	}
	for _, l := range labelsAround(s) {
		at := l.n
		for at.Kind == api.NodeLabel {
			at = at.Kids[0]
		}
		if l.n.Name == s.n.Name && (s.n.Kind == api.NodeBreak || isLoopKind(at.Kind)) {
			return true
		}
	}
	return false
}

// resolved is what Resolve is to tell of a tree that is right.
func resolved(n api.Node) (api.Scoped, int, api.Errno) {
	root := spotted(n, nil, 0)
	m := model{functions: []*spot{root}, told: api.Scoped{Scopes: []api.Scope{{At: n.At, Parent: -1}}}}
	for _, d := range deeds(root) {
		if at, e := m.do(d); e != api.OK {
			return api.Scoped{}, at, e
		}
	}
	for _, v := range m.told.Vars {
		m.told.Scopes[v.Func].Vars++
	}
	return m.told, 0, api.OK
}

// P7.3: trees made by chance.
func TestByChance(t *testing.T) {
	codes := map[api.Errno]int{}
	check := func(_ *maker, n api.Node) {
		want, wantAt, wantE := resolved(n)
		got, at, e := scope.Resolve(n)
		if told(got) != told(want) || at != wantAt || e != wantE {
			t.Fatalf("%+v: %d at %d, want %d at %d\n got %s\nwant %s", n, e, at, wantE, wantAt, told(got), told(want))
		}
		codes[e]++
	}
	made(70, 3000, 60, false, check)
	made(71, 6000, 60, true, check)
	made(72, 50, 1500, false, check)
	for _, e := range []api.Errno{api.OK, api.ErrScopeTwice, api.ErrScopeName, api.ErrScopeConst, api.ErrScopeJump, api.ErrScopeReturn} {
		if codes[e] < 50 {
			t.Error("too few of", e, codes)
		}
	}
	if codes[api.OK] < 3000 {
		t.Error("too few that are fine:", codes)
	}
}
