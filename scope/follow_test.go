package scope_test

import (
	"fmt"
	"reflect"
	"slices"
	"strings"
	"testing"

	"brazier/api"
	"brazier/scope"
)

// P7.5: slots of a function are 0 and on, each once.
func TestSlots(t *testing.T) {
	vars, selves := 0, 0
	made(75, 2000, 80, false, func(_ *maker, n api.Node) {
		s, _, e := scope.Resolve(n)
		if e != api.OK {
			return
		}
		slots := make([][]int, len(s.Scopes))
		for _, v := range s.Vars {
			slots[v.Func] = append(slots[v.Func], v.Slot)
			vars++
			if v.Kind == api.VarSelf {
				selves++
			}
		}
		for i, l := range slots {
			slices.Sort(l)
			for j, slot := range l {
				if slot != j {
					t.Fatalf("function %d: %v", i, l)
				}
			}
			if len(l) != s.Scopes[i].Vars || s.Scopes[i].Params > len(l) {
				t.Fatalf("function %d: %v, %+v", i, l, s.Scopes[i])
			}
		}
	})
	if vars < 20000 || selves < 200 {
		t.Error("too few:", vars, selves)
	}
}

// longer is a tree whose names all got more behind them: those of variables, uses and labels (not the texts, not what a NodeUpdate says); a name that is missing stays so.
func longer(n api.Node, more string) api.Node {
	n = copied(n)
	walk(&n, func(n *api.Node) {
		switch n.Kind {
		case api.NodeUpdate, api.NodeString, api.NodeNumber, 0:
		default:
			if n.Name != "" {
				n.Name += more
			}
		}
	})
	return n
}

// P7.5: names themselves do not matter: if all get the same more behind them, all is the same but the names. What uses builtins is left out here: they are names that only some have.
func TestLongerNames(t *testing.T) {
	codes := map[api.Errno]int{}
	check := func(_ *maker, n api.Node) {
		for i, name := range builtins {
			n = renamed(n, name, fmt.Sprint("n", i))
		}
		walk(&n, func(n *api.Node) {
			if n.Kind == api.NodeName && n.Name == "" {
				n.Name = "v"
			}
		})
		s, at, e := scope.Resolve(n)
		for _, more := range []string{"x", "0", " ", "print", strings.Repeat("long", 20), "\x00"} {
			want := slices.Clone(s.Vars)
			for i := range want {
				if want[i].Name != "" {
					want[i].Name += more
				}
			}
			got, gotAt, gotE := scope.Resolve(longer(n, more))
			if gotE != e || gotAt != at || !slices.Equal(got.Vars, want) || !slices.Equal(got.Uses, s.Uses) || !slices.Equal(got.Scopes, s.Scopes) {
				t.Fatalf("%q: %d at %d, want %d at %d\n got %s\nwant %s", more, gotE, gotAt, e, at, told(got), told(s))
			}
		}
		codes[e]++
	}
	made(76, 500, 60, false, check)
	made(77, 1000, 60, true, check)
	if codes[api.OK] < 100 || codes[api.ErrScopeTwice] < 20 || codes[api.ErrScopeName] < 20 || codes[api.ErrScopeJump] < 5 {
		t.Error("too few:", codes)
	}
}

func renamed(n api.Node, from, to string) api.Node {
	n = copied(n)
	walk(&n, func(n *api.Node) {
		if n.Name == from {
			n.Name = to
		}
	})
	return n
}

// P7.5: a name that is another's beginning, and one that becomes a builtin's.
func TestNamesByHand(t *testing.T) {
	resolves(t, "let a; let aa; let aaa; aa; a; aaa;", "0^-1:0/3", "a@0 let 0.0, aa@7 let 0.1, aaa@15 let 0.2", "24>1, 28>0, 31>2")
	resolves(t, "let pri; { let prin; pri; prin; }", "0^-1:0/2", "pri@0 let 0.0, prin@11 let 0.1", "21>0, 26>1")
	resolves(t, "let prin; { let print; prin; print; }", "0^-1:0/2", "prin@0 let 0.0, print@12 let 0.1", "23>0, 29>1")
	wrongHere(t, "|prin;", api.ErrScopeName)
	uses(t, "print;", "0>-1")
	resolves(t, "let A; let a; let $; let _; a; A; _; $;", "0^-1:0/4", "A@0 let 0.0, a@7 let 0.1, $@14 let 0.2, _@21 let 0.3", "28>1, 31>0, 34>3, 37>2")
}

// P7.3: names of trees that no text has: the empty one, words, bytes of all kinds are names as others are.
func TestStrangeNames(t *testing.T) {
	for _, name := range []string{"", "this", "let", "0", " ", "\x00", "\xff\xfe", strings.Repeat("n", 100000), "__proto__", "a.b"} {
		let := api.Node{Kind: api.NodeLet, At: 4, Name: name, Kids: []api.Node{{}}}
		use := node(api.NodeExpr, api.Node{Kind: api.NodeName, At: 6, Name: name})
		if s := fineTree(t, name, program(let, use)); len(s.Vars) != 1 || s.Vars[0].Name != name || !slices.Equal(s.Uses, []api.Use{{At: 6}}) {
			t.Errorf("%.20q: %.200s", name, told(s))
		}
		wrongTree(t, name, program(use), 6, api.ErrScopeName)
		again := let
		again.At = 9
		wrongTree(t, name, program(let, again), 9, api.ErrScopeTwice)
	}
	block, empty := node(api.NodeBlock), node(api.NodeEmpty)
	try := api.Node{Kind: api.NodeTry, At: 4, Kids: []api.Node{block, node(api.NodeBlock, node(api.NodeExpr, node(api.NodeName))), {}}}
	if s := fineTree(t, "catch", program(try)); varsTold(s) != "@4 catch 0.0" || usesTold(s) != "0>0" {
		t.Error(told(s))
	}
	loop := api.Node{Kind: api.NodeForOf, At: 4, Op: "const", Kids: []api.Node{node(api.NodeTrue), node(api.NodeExpr, node(api.NodeName))}}
	if s := fineTree(t, "for of", program(loop)); varsTold(s) != "@4 const 0.0" || usesTold(s) != "0>0" {
		t.Error(told(s))
	}
	declare := api.Node{Kind: api.NodeDeclare, At: 4, Kids: []api.Node{node(api.NodeName), block}}
	if s := fineTree(t, "declare", program(declare)); varsTold(s) != "@4 function 0.0, @0 param 1.0" {
		t.Error(told(s))
	}
	// A jump without a name goes to a loop, never to a label without one.
	label := func(n api.Node) api.Node { return api.Node{Kind: api.NodeLabel, At: 5, Kids: []api.Node{n}} }
	fineTree(t, "label", program(label(empty)))
	wrongTree(t, "label", program(label(api.Node{Kind: api.NodeBreak, At: 8})), 8, api.ErrScopeJump)
	inner := label(empty)
	inner.At = 7
	wrongTree(t, "labels", program(label(inner)), 7, api.ErrScopeJump)
}

// P7.3: what a name of no catch, of a block, of a text says is not declared, and not used.
func TestNamesOfOthers(t *testing.T) {
	n := program()
	for _, kind := range []int{api.NodeIf, api.NodeWhile, api.NodeFor, api.NodeThrow, api.NodeBlock, api.NodeEmpty, api.NodeExpr} {
		k := sample(kind)
		k.Name = "zz"
		n.Kids = append(n.Kids, k)
	}
	n.Kids = append(n.Kids, api.Node{Kind: api.NodeTry, Name: "zz", Kids: []api.Node{node(api.NodeBlock), {Name: "zz"}, node(api.NodeBlock)}})
	n.Kids = append(n.Kids, node(api.NodeExpr, api.Node{Kind: api.NodeString, Name: "zz"}))
	n.Name = "zz"
	if s := fineTree(t, "names", n); told(s) != "0^-1:0/0; ; " {
		t.Error(told(s))
	}
	n.Kids = append(n.Kids, node(api.NodeExpr, api.Node{Kind: api.NodeName, At: 9, Name: "zz"}))
	wrongTree(t, "names", n, 9, api.ErrScopeName)
}

// P7.3: trees that no text has: a key behind a point, a property's value, what is deleted may be any expression, and is gone through.
func TestStrangeTrees(t *testing.T) {
	name := func(at int, name string) api.Node { return api.Node{Kind: api.NodeName, At: at, Name: name} }
	let := func(name string, at int) api.Node {
		return api.Node{Kind: api.NodeLet, Name: name, At: at, Kids: []api.Node{{}}}
	}
	expr := func(n api.Node) api.Node { return node(api.NodeExpr, n) }
	member := func(at int) api.Node {
		return api.Node{Kind: api.NodeMember, Op: ".", Kids: []api.Node{name(at, "a"), name(at+1, "b")}}
	}
	s := fineTree(t, "strange", program(let("a", 1), let("b", 2), expr(member(10)), expr(api.Node{Kind: api.NodeUnary, Op: "delete", Kids: []api.Node{name(20, "b")}}),
		expr(node(api.NodeObject, api.Node{Kind: api.NodeProp, Op: "get", Kids: []api.Node{name(30, "b"), name(31, "a")}})),
		expr(api.Node{Kind: api.NodeAssign, Op: "=", Kids: []api.Node{member(40), name(42, "a")}}),
		expr(api.Node{Kind: api.NodeUpdate, Op: "++", Name: "post", Kids: []api.Node{member(50)}})))
	if usesTold(s) != "10>0, 11>1, 20>1, 30>1, 31>0, 40>0, 41>1, 42>0, 50>0, 51>1" {
		t.Error(usesTold(s))
	}
	// A const can be deleted, as far as names go; so can a builtin.
	fineTree(t, "delete", program(expr(api.Node{Kind: api.NodeUnary, Op: "delete", Kids: []api.Node{name(1, "print")}})))
	wrongTree(t, "delete", program(expr(api.Node{Kind: api.NodeUnary, Op: "delete", Kids: []api.Node{name(1, "x")}})), 1, api.ErrScopeName)
}

// mutated is a tree of which one thing is another.
func mutated(m *maker, n api.Node) api.Node {
	n = copied(n)
	var all []*api.Node
	walk(&n, func(n *api.Node) { all = append(all, n) })
	one, other := pick(m, all), *pick(m, all)
	switch m.below(10) {
	case 0:
		one.Kind = m.below(lastKind)
	case 1:
		one.Kind = other.Kind
	case 2:
		one.Op = m.of(other.Op, "", "*", "+", "init", "let", "=")
	case 3:
		one.Name = m.of(other.Name, "", "pre", "post")
	case 4:
		one.At = other.At
	case 5:
		if len(one.Kids) > 0 {
			i := m.below(len(one.Kids))
			one.Kids = slices.Delete(one.Kids, i, i+1)
		}
	case 6:
		one.Kids = slices.Insert(one.Kids, m.below(len(one.Kids)+1), api.Node{})
	case 7:
		one.Kids = slices.Insert(one.Kids, m.below(len(one.Kids)+1), sample(m.below(lastKind)))
	case 8:
		if len(one.Kids) > 0 {
			one.Kids[m.below(len(one.Kids))] = api.Node{}
		}
	case 9:
		*one = copied(other)
	}
	return n
}

// P7.2, P7.3: trees made by chance of which one thing is another.
func TestMutated(t *testing.T) {
	right, wrong := 0, 0
	made(78, 12000, 25, true, func(m *maker, n api.Node) {
		if !agrees(t, "made", n) {
			t.Fatal("not right:", n)
		}
		n = mutated(m, n)
		if !agrees(t, "mutated", n) {
			wrong++
			return
		}
		right++
		want, wantAt, wantE := resolved(n)
		if got, at, e := scope.Resolve(n); told(got) != told(want) || at != wantAt || e != wantE {
			t.Fatalf("%+v: %d at %d, want %d at %d", n, e, at, wantE, wantAt)
		}
	})
	if right < 2000 || wrong < 4000 {
		t.Error("too few:", right, wrong)
	}
}

// R4, R5, R6: a tree stays as it was; what is told is the caller's own, and always the same.
func TestNothingIsKept(t *testing.T) {
	made(79, 500, 60, false, func(_ *maker, n api.Node) {
		before := copied(n)
		first, at, e := scope.Resolve(n)
		want := told(first)
		for i := range first.Scopes {
			first.Scopes[i] = api.Scope{At: -9}
		}
		for i := range first.Vars {
			first.Vars[i] = api.Var{Name: "x"}
		}
		for i := range first.Uses {
			first.Uses[i] = api.Use{At: -9}
		}
		if !reflect.DeepEqual(copied(n), before) {
			t.Fatal("a tree was changed")
		}
		if again, gotAt, gotE := scope.Resolve(n); told(again) != want || gotAt != at || gotE != e {
			t.Fatalf("first %s, then %s", want, told(again))
		}
		scope.Resolve(program(node(api.NodeReturn, api.Node{})))
		if again, _, _ := scope.Resolve(before); told(again) != want {
			t.Fatalf("first %s, then %s", want, told(again))
		}
	})
}

// R5: what is told does not hang on a tree that is written into later, and appending to one list leaves the others as they are.
func TestAnswersAreApart(t *testing.T) {
	n := tree(t, "let a; function f(b) { return a + b; } f(1);")
	s := fineTree(t, "a tree", n)
	want := told(s)
	walk(&n, func(n *api.Node) { *n = api.Node{Name: "gone", At: -1, Kids: n.Kids} })
	_ = append(s.Scopes, api.Scope{At: 99})
	_ = append(s.Vars, api.Var{At: 99})
	_ = append(s.Uses, api.Use{At: 99})
	if told(s) != want {
		t.Error(told(s), want)
	}
}
