package emit_test

import (
	"reflect"
	"testing"

	"brazier/api"
	"brazier/scope"
)

// placed is a tree in which no two nodes have the same place, and places are in no order.
func placed(n api.Node) api.Node {
	n = copied(n)
	count := 0
	walk(&n, func(n *api.Node) {
		count++
		n.At = count*7919%1000003 - 5000
	})
	return n
}

// P9.1, P7.2: where nodes stand in the text does not matter, nor what a member's Op is, nor what is in the fields of a node of nothing.
func TestPlaces(t *testing.T) {
	t.Parallel()
	made(21, 200, 90, func(s string) {
		n, x := tree(t, s)
		p := codeOf(t, s, n, x)
		other := placed(n)
		walk(&other, func(n *api.Node) {
			switch n.Kind {
			case api.NodeMember:
				n.Op = "any"
			case 0:
				n.Name, n.Op, n.Num = "a", "b", 7
			case api.NodeBlock, api.NodeName, api.NodeNumber:
				n.Op = "c"
			}
		})
		if !reflect.DeepEqual(p, codeOf(t, s, other, resolved(t, s, other))) {
			t.Fatalf("%s\nthe code is another one", s)
		}
	})
}

// P9.1: the empty name is one as others are; but a function expression has none then, and a jump goes to no label.
func TestEmptyName(t *testing.T) {
	t.Parallel()
	met := 0
	made(22, 400, 90, func(s string) {
		n, _ := tree(t, s)
		walk(&n, func(n *api.Node) {
			switch n.Kind {
			case api.NodeName, api.NodeLet, api.NodeConst, api.NodeDeclare, api.NodeForOf, api.NodeTry, api.NodeFunction:
				if n.Name == "a" {
					n.Name = ""
				}
			}
		})
		x, _, e := scope.Resolve(n)
		if e != api.OK { // what was a function's own name is another one's now
			return
		}
		met++
		log, end := walkTree(n, plenty)
		log2, end2 := runCode(codeOf(t, s, n, x), plenty)
		if !sameEnd(log, end, log2, end2) {
			t.Fatalf("a is the empty name:\n%s\nthe tree prints %q, %s\nthe code prints %q, %s", s, log, end, log2, end2)
		}
	})
	if met < 200 {
		t.Error(met)
	}
}

// runsAs: a tree that no text has, and what it does.
func runsAs(t *testing.T, what string, n api.Node, lines []string, end string) {
	t.Helper()
	n = placed(n)
	log, how := runCode(codeOf(t, what, n, resolved(t, what, n)), plenty)
	if !reflect.DeepEqual(log, lines) || how != end {
		t.Errorf("%s: prints %q, %s; want %q, %s", what, log, how, lines, end)
	}
	if log, how := walkTree(n, plenty); !reflect.DeepEqual(log, lines) || how != end {
		t.Errorf("%s: the tree prints %q, %s; want %q, %s", what, log, how, lines, end)
	}
}

func named(kind int, name string, kids ...api.Node) api.Node {
	return api.Node{Kind: kind, Name: name, Kids: kids}
}

func withOp(kind int, op string, kids ...api.Node) api.Node {
	return api.Node{Kind: kind, Op: op, Kids: kids}
}

// say is a statement that prints.
func say(values ...api.Node) api.Node {
	return node(api.NodeExpr, node(api.NodeCall, append([]api.Node{named(api.NodeName, "print")}, values...)...))
}

// P9.1, P7.2: trees that scope takes, though no text has them.
func TestFreeTrees(t *testing.T) {
	text := func(s string) api.Node { return named(api.NodeString, s) }
	two := node(api.NodeArray, node(api.NodeTrue), node(api.NodeNull))
	object := node(api.NodeObject, withOp(api.NodeProp, "init", text("true"), text("yes")))
	runsAs(t, "a key behind a point that is no text", program(say(withOp(api.NodeMember, ".", object, node(api.NodeTrue)))), []string{"yes"}, "done")
	runsAs(t, "a key in brackets that is a text", program(say(withOp(api.NodeMember, "[", object, text("true")))), []string{"yes"}, "done")
	runsAs(t, "delete of a name", program(named(api.NodeLet, "a", api.Node{}), say(withOp(api.NodeUnary, "delete", named(api.NodeName, "a")))), []string{"true"}, "done")
	runsAs(t, "delete of a name that is not reached", program(say(withOp(api.NodeUnary, "delete", named(api.NodeName, "a"))), named(api.NodeLet, "a", api.Node{})), nil, "thrown ReferenceError: a")
	getter := node(api.NodeObject, withOp(api.NodeProp, "get", text("x"), node(api.NodeNull)))
	runsAs(t, "a getter that is no function", program(say(withOp(api.NodeMember, ".", getter, text("x")))), nil, "thrown TypeError: call")
	runsAs(t, "a label that has no name", program(named(api.NodeLabel, "", node(api.NodeWhile, node(api.NodeTrue), node(api.NodeBlock, say(text("x")), node(api.NodeBreak))))), []string{"x"}, "done")
	runsAs(t, "a label without a name at no loop", program(node(api.NodeWhile, node(api.NodeTrue), node(api.NodeBlock, named(api.NodeLabel, "", node(api.NodeBlock, node(api.NodeBreak), say(text("x"))))))), nil, "done")
	runsAs(t, "a text that is long", program(say(withOp(api.NodeMember, ".", text(many("x", 5000, "")), text("length")))), []string{"5000"}, "done")

	shared := []api.Node{node(api.NodeFunction, node(api.NodeBlock, node(api.NodeReturn, two)))}
	n := program(node(api.NodeExpr, shared...), node(api.NodeExpr, shared...), node(api.NodeExpr, two), node(api.NodeExpr, two))
	p := codeOf(t, "lists that share memory", n, resolved(t, "lists that share memory", n))
	if len(p.Funcs) != 3 {
		t.Error("a function that stands there twice:", len(p.Funcs))
	}
}
