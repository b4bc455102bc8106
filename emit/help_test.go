package emit_test

import (
	"slices"
	"strings"
	"testing"

	"brazier/api"
	"brazier/code"
	"brazier/emit"
	"brazier/parse"
	"brazier/scope"
)

// chance tells the same numbers in each run.
type chance uint64

func (c *chance) next() uint64 {
	*c += 0x9e3779b97f4a7c15
	z := uint64(*c)
	z = (z ^ z>>30) * 0xbf58476d1ce4e5b9
	z = (z ^ z>>27) * 0x94d049bb133111eb
	return z ^ z>>31
}

func (c *chance) below(n int) int { return int(c.next() % uint64(n)) }

func (c *chance) of(l ...string) string { return l[c.below(len(l))] }

// tree is a text's, with its names.
func tree(t *testing.T, s string) (api.Node, api.Scoped) {
	t.Helper()
	n, at, e := parse.Parse(s)
	if e != api.OK {
		t.Fatalf("%.2000s\nparse: %d at %d", s, e, at)
	}
	return n, resolved(t, s, n)
}

func resolved(t *testing.T, what string, n api.Node) api.Scoped {
	t.Helper()
	x, at, e := scope.Resolve(n)
	if e != api.OK {
		t.Fatalf("%.2000s\nscope: %d at %d", what, e, at)
	}
	return x
}

// codeOf is a tree's code, which is held against code.Check.
func codeOf(t *testing.T, what string, n api.Node, x api.Scoped) api.Program {
	t.Helper()
	p, e := emit.Program(n, x)
	if e != api.OK || code.Check(p) != api.OK {
		t.Fatalf("%.2000s\nerror %d, check %d", what, e, code.Check(p))
	}
	return p
}

// emitted is a text's code.
func emitted(t *testing.T, s string) api.Program {
	t.Helper()
	n, x := tree(t, s)
	return codeOf(t, s, n, x)
}

const plenty = 1 << 20

// prints: the program's code prints those lines (parted by |), and ends so; so does its tree.
func prints(t *testing.T, s, lines, end string) {
	t.Helper()
	want := strings.Split(lines, "|")
	if lines == "" {
		want = nil
	}
	n, x := tree(t, s)
	if log, how := walkTree(n, plenty); !slices.Equal(log, want) || how != end {
		t.Errorf("%s\nthe tree prints %q, %s\nwant %q, %s", s, log, how, want, end)
	}
	if log, how := runCode(codeOf(t, s, n, x), plenty); !slices.Equal(log, want) || how != end {
		t.Errorf("%s\nthe code prints %q, %s\nwant %q, %s", s, log, how, want, end)
	}
}

// walk calls f with each node of a tree, which may be written into.
func walk(n *api.Node, f func(n *api.Node)) {
	f(n)
	for i := range n.Kids {
		walk(&n.Kids[i], f)
	}
}

// copied is a tree in memory of its own.
func copied(n api.Node) api.Node {
	n.Kids = slices.Clone(n.Kids)
	for i, k := range n.Kids {
		n.Kids[i] = copied(k)
	}
	return n
}

// node is one with those kids.
func node(kind int, kids ...api.Node) api.Node { return api.Node{Kind: kind, Kids: kids} }

func program(kids ...api.Node) api.Node { return node(api.NodeProgram, kids...) }
