package emit_test

import (
	"reflect"
	"slices"
	"testing"

	"brazier/api"
	"brazier/emit"
	"brazier/parse"
	"brazier/scope"
)

func refused(t *testing.T, what string, n api.Node, x api.Scoped) {
	t.Helper()
	if p, e := emit.Program(n, x); e != api.ErrArg || p.Funcs != nil {
		t.Errorf("%s: error %d, %d functions, want ErrArg", what, e, len(p.Funcs))
	}
}

const rich = `let a = 1; const c = 2; function f(p, q) { return a + p + c; } function* g() { yield print; } try { f(a); } catch (e) { a = e; } let h = function k() { return k; }; for (let x of [1]) { f(x); }`

func cloned(x api.Scoped) api.Scoped {
	return api.Scoped{Scopes: slices.Clone(x.Scopes), Vars: slices.Clone(x.Vars), Uses: slices.Clone(x.Uses)}
}

// P9.1: names of which one field is changed are not the tree's.
func TestChangedNames(t *testing.T) {
	n, x := tree(t, rich)
	codeOf(t, rich, n, cloned(x))
	change := func(what string, do func(x *api.Scoped)) {
		y := cloned(x)
		do(&y)
		refused(t, what, n, y)
	}
	for i := range x.Scopes {
		change("At of a scope", func(x *api.Scoped) { x.Scopes[i].At++ })
		change("Parent", func(x *api.Scoped) { x.Scopes[i].Parent-- })
		change("Params", func(x *api.Scoped) { x.Scopes[i].Params++ })
		change("Vars of a scope", func(x *api.Scoped) { x.Scopes[i].Vars++ })
		change("a scope less", func(x *api.Scoped) { x.Scopes = slices.Delete(x.Scopes, i, i+1) })
	}
	for i := range x.Vars {
		change("Name", func(x *api.Scoped) { x.Vars[i].Name += "x" })
		change("At of a variable", func(x *api.Scoped) { x.Vars[i].At++ })
		change("Kind", func(x *api.Scoped) { x.Vars[i].Kind++ })
		change("Func", func(x *api.Scoped) { x.Vars[i].Func++ })
		change("Slot", func(x *api.Scoped) { x.Vars[i].Slot++ })
		change("Captured", func(x *api.Scoped) { x.Vars[i].Captured = !x.Vars[i].Captured })
		change("a variable less", func(x *api.Scoped) { x.Vars = slices.Delete(x.Vars, i, i+1) })
	}
	for i := range x.Uses {
		change("At of a use", func(x *api.Scoped) { x.Uses[i].At++ })
		change("Var", func(x *api.Scoped) { x.Uses[i].Var-- })
		change("a use less", func(x *api.Scoped) { x.Uses = slices.Delete(x.Uses, i, i+1) })
	}
	change("a scope more", func(x *api.Scoped) { x.Scopes = append(x.Scopes, api.Scope{}) })
	change("a variable more", func(x *api.Scoped) { x.Vars = append(x.Vars, api.Var{}) })
	change("a use more", func(x *api.Scoped) { x.Uses = append(x.Uses, api.Use{}) })
	change("two turned round", func(x *api.Scoped) { x.Vars[0], x.Vars[1] = x.Vars[1], x.Vars[0] })
	change("nothing", func(x *api.Scoped) { *x = api.Scoped{} })
}

// P9.1: a tree with another tree's names; trees that scope refuses, whatever the names are.
func TestOtherTrees(t *testing.T) {
	n, x := tree(t, rich)
	for _, s := range []string{"", "1;", "let a;", rich + " a;", " " + rich} {
		other, names := tree(t, s)
		refused(t, s, other, x)
		refused(t, s, n, names)
	}
	for _, s := range []string{"b;", "let a; let a;", "const c = 1; c = 2;", "return;", "break;", "a: a: ;"} {
		wrong, _, e := parse.Parse(s)
		names, _, e2 := scope.Resolve(wrong)
		if e != api.OK || e2 == api.OK {
			t.Error(s, e, e2)
		}
		refused(t, s, wrong, names)
		refused(t, s, wrong, x)
	}
	refused(t, "nothing", api.Node{}, api.Scoped{})
	refused(t, "nothing", api.Node{}, x)
	refused(t, "no program", node(api.NodeBlock), api.Scoped{Scopes: []api.Scope{{Parent: -1}}})
	refused(t, "no tree", program(node(99)), api.Scoped{Scopes: []api.Scope{{Parent: -1}}})
	deep := node(api.NodeEmpty)
	for range api.MaxTree {
		deep = node(api.NodeBlock, deep)
	}
	refused(t, "too deep", program(deep), api.Scoped{Scopes: []api.Scope{{Parent: -1}}})
	loop := make([]api.Node, 1)
	loop[0] = node(api.NodeBlock, loop...)
	loop[0].Kids = loop
	refused(t, "without an end", program(loop...), api.Scoped{Scopes: []api.Scope{{Parent: -1}}})
}

// P9.1, R2: an empty list is as good as none.
func TestEmptyLists(t *testing.T) {
	n := program()
	n.Kids = []api.Node{}
	p := codeOf(t, "nothing", n, api.Scoped{Scopes: []api.Scope{{Parent: -1}}, Vars: []api.Var{}, Uses: []api.Use{}})
	if len(p.Funcs) != 1 {
		t.Error(p)
	}
}

// R4, R5, R6: what is given stays as it was; the same tree has the same code; what is told is the caller's own.
func TestRules(t *testing.T) {
	t.Parallel()
	made(3, 150, 90, func(s string) {
		n, x := tree(t, s)
		n2, x2 := copied(n), cloned(x)
		p, q := codeOf(t, s, n, x), codeOf(t, s, n, x)
		if !reflect.DeepEqual(n, n2) || !reflect.DeepEqual(x, x2) {
			t.Fatalf("%s\nwhat was given is changed", s)
		}
		if !reflect.DeepEqual(p, q) {
			t.Fatalf("%s\nthe code is another one", s)
		}
		spoil(p.Funcs)
		if !reflect.DeepEqual(q, codeOf(t, s, n2, x2)) {
			t.Fatalf("%s\nthe code has changed", s)
		}
		p = codeOf(t, s, n, x)
		for i := range p.Funcs { // no two functions share anything
			spoil(p.Funcs[i : i+1])
			if !reflect.DeepEqual(p.Funcs[i+1:], q.Funcs[i+1:]) {
				t.Fatalf("%s\nfunctions behind %d have changed", s, i)
			}
		}
	})
}

// spoil writes into all of functions.
func spoil(l []api.Func) {
	for i := range l {
		f := &l[i]
		for k := range f.Code {
			f.Code[k] = api.Instr{Op: -1}
		}
		for k := range f.Consts {
			f.Consts[k] = api.Const{}
		}
		for k := range f.Captures {
			f.Captures[k] = api.Capture{}
		}
		for k := range f.Handlers {
			f.Handlers[k] = api.Handler{}
		}
		*f = api.Func{}
	}
}
