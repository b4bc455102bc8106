package scope_test

import (
	"fmt"
	"slices"
	"strings"
	"testing"

	"brazier/api"
	"brazier/parse"
	"brazier/scope"
)

var varKinds = []string{api.VarLet: "let", api.VarConst: "const", api.VarParam: "param", api.VarFunction: "function", api.VarSelf: "self", api.VarCatch: "catch"}

// scopesTold: of each At^Parent:Params/Vars.
func scopesTold(s api.Scoped) string {
	var l []string
	for _, x := range s.Scopes {
		l = append(l, fmt.Sprintf("%d^%d:%d/%d", x.At, x.Parent, x.Params, x.Vars))
	}
	return strings.Join(l, ", ")
}

// varsTold: of each Name@At Kind Func.Slot, and a ! behind those that are Captured.
func varsTold(s api.Scoped) string {
	var l []string
	for _, x := range s.Vars {
		captured := ""
		if x.Captured {
			captured = "!"
		}
		l = append(l, fmt.Sprintf("%s@%d %s %d.%d%s", x.Name, x.At, varKinds[x.Kind], x.Func, x.Slot, captured))
	}
	return strings.Join(l, ", ")
}

// usesTold: of each At>Var.
func usesTold(s api.Scoped) string {
	var l []string
	for _, x := range s.Uses {
		l = append(l, fmt.Sprintf("%d>%d", x.At, x.Var))
	}
	return strings.Join(l, ", ")
}

func told(s api.Scoped) string {
	return scopesTold(s) + "; " + varsTold(s) + "; " + usesTold(s)
}

func tree(t *testing.T, s string) api.Node {
	t.Helper()
	n, at, e := parse.Parse(s)
	if e != api.OK {
		t.Fatalf("%.300q: parse: %d at %d", s, e, at)
	}
	return n
}

// resolves: the program is told so.
func resolves(t *testing.T, s, scopes, vars, uses string) {
	t.Helper()
	got, at, e := scope.Resolve(tree(t, s))
	if e != api.OK || at != 0 || scopesTold(got) != scopes || varsTold(got) != vars || usesTold(got) != uses {
		t.Errorf("%s: error %d at %d\n got %s\nwant %s; %s; %s", s, e, at, told(got), scopes, vars, uses)
	}
}

// uses: the program's names are used so.
func uses(t *testing.T, s, want string) {
	t.Helper()
	got, at, e := scope.Resolve(tree(t, s))
	if e != api.OK || at != 0 || usesTold(got) != want {
		t.Errorf("%s: error %d at %d\n got %s\nwant %s", s, e, at, usesTold(got), want)
	}
}

func fineTree(t *testing.T, what string, n api.Node) api.Scoped {
	t.Helper()
	got, at, e := scope.Resolve(n)
	if e != api.OK || at != 0 || len(got.Scopes) == 0 {
		t.Errorf("%.300s: error %d at %d", what, e, at)
	}
	return got
}

func fine(t *testing.T, s string) api.Scoped {
	t.Helper()
	return fineTree(t, s, tree(t, s))
}

func wrongTree(t *testing.T, what string, n api.Node, at int, e api.Errno) {
	t.Helper()
	got, gotAt, gotE := scope.Resolve(n)
	if gotE != e || gotAt != at || got.Scopes != nil || got.Vars != nil || got.Uses != nil {
		t.Errorf("%.300s: error %d at %d, want %d at %d; %.100s", what, gotE, gotAt, e, at, told(got))
	}
}

// wrongHere: s has a | ahead of the place that is told.
func wrongHere(t *testing.T, s string, e api.Errno) {
	t.Helper()
	at := strings.Index(s, "|")
	s = s[:at] + s[at+1:]
	wrongTree(t, s, tree(t, s), at, e)
}

// chance tells the same numbers in each run.
type chance uint64

func (c *chance) next() uint64 {
	*c += 0x9e3779b97f4a7c15
	z := uint64(*c)
	z = (z ^ z>>30) * 0xbf58476d1ce4e5b9
	z = (z ^ z>>27) * 0x94d049bb133111eb
	return z ^ z>>31
}

func (c *chance) below(n int) int { return int(c.next() % uint64(n)) }

func (c *chance) of(l ...string) string { return l[c.below(len(l))] }

// node is one with those kids.
func node(kind int, kids ...api.Node) api.Node { return api.Node{Kind: kind, Kids: kids} }

func program(kids ...api.Node) api.Node { return node(api.NodeProgram, kids...) }

// copied is a tree in memory of its own.
func copied(n api.Node) api.Node {
	n.Kids = slices.Clone(n.Kids)
	for i, k := range n.Kids {
		n.Kids[i] = copied(k)
	}
	return n
}

// walk calls f with each node of a tree, which may be written into.
func walk(n *api.Node, f func(n *api.Node)) {
	f(n)
	for i := range n.Kids {
		walk(&n.Kids[i], f)
	}
}

// placed is a tree in which no two nodes have the same place.
func placed(n api.Node) api.Node {
	n = copied(n)
	at := 3
	walk(&n, func(n *api.Node) {
		n.At = at
		at++
	})
	return n
}
