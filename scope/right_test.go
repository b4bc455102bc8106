package scope_test

import (
	"fmt"
	"slices"
	"strings"
	"testing"

	"brazier/api"
	"brazier/scope"
)

// P7.2: each kind is right somewhere, but the kinds that are none.
func TestKinds(t *testing.T) {
	for kind := -2; kind <= lastKind; kind++ {
		_, known := forms[kind]
		if got := agrees(t, fmt.Sprint("kind ", kind), within(sample(kind))); got != (known && kind != 0) {
			t.Errorf("kind %d: %v", kind, got)
		}
	}
	for _, kind := range []int{-1 << 63, 1<<63 - 1, 256 + api.NodeEmpty, 1<<32 + api.NodeEmpty, 64 + api.NodeTrue} {
		if agrees(t, "far", within(node(kind))) || agrees(t, "far", program(node(api.NodeExpr, node(kind)))) || agrees(t, "far", node(kind)) {
			t.Error(kind)
		}
	}
}

// P7.2: a tree is a NodeProgram, and there is no other within it.
func TestRoot(t *testing.T) {
	for kind := -1; kind <= lastKind; kind++ {
		n := placed(sample(kind))
		if got := agrees(t, "root", n); got != (kind == api.NodeProgram) {
			t.Errorf("kind %d: %v", kind, got)
		}
	}
	if agrees(t, "nothing", api.Node{}) || !agrees(t, "empty", program()) || agrees(t, "in itself", program(program())) || agrees(t, "nothing in it", program(api.Node{})) {
		t.Error("programs")
	}
}

// P7.2: which kinds may be which kids of which: all are tried at each place of each.
func TestKindsOfKids(t *testing.T) {
	right := 0
	for parent := 1; parent <= lastKind; parent++ {
		for i := range sample(parent).Kids {
			for kind := -1; kind <= lastKind; kind++ {
				n := sample(parent)
				n.Kids[i] = sample(kind)
				if agrees(t, fmt.Sprint("kind ", kind, " as kid ", i, " of ", parent), within(n)) {
					right++
				}
			}
		}
	}
	if right < 500 {
		t.Error("too few are right:", right)
	}
}

// P7.2: as many kids as the grammar says; what is missing is a node of nothing, where one may be missing.
func TestNumbersOfKids(t *testing.T) {
	for parent := 1; parent <= lastKind; parent++ {
		base := sample(parent).Kids
		for count := range 7 {
			for more := -1; more <= lastKind; more++ {
				n := sample(parent)
				n.Kids = slices.Clone(base[:min(count, len(base))])
				for len(n.Kids) < count {
					n.Kids = append(n.Kids, sample(more))
				}
				agrees(t, fmt.Sprint(count, " kids of ", parent), within(n))
				slices.Reverse(n.Kids)
				agrees(t, fmt.Sprint(count, " kids of ", parent), within(n))
			}
		}
	}
}

// P7.2: by hand: trees that are right, of which many have no text.
func TestRight(t *testing.T) {
	nothing, yes, empty, block := api.Node{}, node(api.NodeTrue), node(api.NodeEmpty), node(api.NodeBlock)
	for what, n := range map[string]api.Node{
		"empty list":            {Kind: api.NodeEmpty, Kids: []api.Node{}},
		"return nothing":        node(api.NodeReturn, nothing),
		"let nothing":           node(api.NodeLet, nothing),
		"yield nothing":         node(api.NodeExpr, node(api.NodeYield, nothing)),
		"if without else":       node(api.NodeIf, yes, empty, nothing),
		"if in if, else beyond": node(api.NodeIf, yes, node(api.NodeIf, yes, empty, nothing), empty),
		"for of nothings":       node(api.NodeFor, nothing, nothing, nothing, empty),
		"catch alone":           node(api.NodeTry, block, block, nothing),
		"finally alone":         node(api.NodeTry, block, nothing, block),
		"nothing with fields":   node(api.NodeReturn, api.Node{At: 5, Name: "a", Num: 7, Op: "+", Kids: []api.Node{}}),
		"empty array":           node(api.NodeExpr, node(api.NodeArray)),
		"empty object":          node(api.NodeExpr, node(api.NodeObject)),
		"call without any":      node(api.NodeExpr, node(api.NodeCall, yes)),
		"new of a call":         node(api.NodeExpr, node(api.NodeNew, node(api.NodeCall, yes), yes)),
		"object as a statement": node(api.NodeExpr, node(api.NodeObject, sample(api.NodeProp))),
		"delete of a name":      node(api.NodeExpr, api.Node{Kind: api.NodeUnary, Op: "delete", Kids: []api.Node{node(api.NodeName)}}),
		"delete of a number":    node(api.NodeExpr, api.Node{Kind: api.NodeUnary, Op: "delete", Kids: []api.Node{node(api.NodeNumber)}}),
		"key of a point":        node(api.NodeExpr, api.Node{Kind: api.NodeMember, Op: ".", Kids: []api.Node{yes, node(api.NodeYield, yes)}}),
		"getter of no function": node(api.NodeExpr, node(api.NodeObject, api.Node{Kind: api.NodeProp, Op: "get", Kids: []api.Node{yes, yes}})),
		"setter with a name":    node(api.NodeExpr, node(api.NodeObject, api.Node{Kind: api.NodeProp, Op: "set", Kids: []api.Node{yes, {Kind: api.NodeFunction, Name: "f", Op: "*", Kids: []api.Node{block}}}})),
		"key of a property":     node(api.NodeExpr, node(api.NodeObject, api.Node{Kind: api.NodeProp, Op: "init", Kids: []api.Node{sample(api.NodeAssign), yes}})),
		"sum times":             node(api.NodeExpr, api.Node{Kind: api.NodeBinary, Op: "*", Kids: []api.Node{sample(api.NodeBinary), sample(api.NodeCond)}}),
		"sign of an assignment": node(api.NodeExpr, api.Node{Kind: api.NodeUnary, Op: "-", Kids: []api.Node{sample(api.NodeAssign)}}),
		"no name of a catch":    {Kind: api.NodeTry, Kids: []api.Node{block, block, nothing}},
		"a name of no catch":    {Kind: api.NodeTry, Name: "e", Kids: []api.Node{block, nothing, block}},
		"no name of a let":      {Kind: api.NodeLet, Kids: []api.Node{yes}},
		"no name of a label":    {Kind: api.NodeLabel, Kids: []api.Node{empty}},
		"no name of a function": {Kind: api.NodeDeclare, Kids: []api.Node{block}},
		"no name of a loop":     {Kind: api.NodeForOf, Op: "let", Kids: []api.Node{yes, empty}},
		"a break that is named": {Kind: api.NodeBreak, Name: "print"},
	} {
		if !agrees(t, what, within(n)) {
			t.Error("not right:", what)
		}
	}
}

// P7.2: by hand: trees that are not.
func TestNotRight(t *testing.T) {
	nothing, yes, empty, block := api.Node{}, node(api.NodeTrue), node(api.NodeEmpty), node(api.NodeBlock)
	for what, n := range map[string]api.Node{
		"nothing":                      nothing,
		"if without kids":              node(api.NodeIf),
		"if of two":                    node(api.NodeIf, yes, empty),
		"return of none":               node(api.NodeReturn),
		"let of none":                  node(api.NodeLet),
		"const of nothing":             node(api.NodeConst, nothing),
		"throw nothing":                node(api.NodeThrow, nothing),
		"an expression of nothing":     node(api.NodeExpr, nothing),
		"while nothing":                node(api.NodeWhile, nothing, empty),
		"while without a body":         node(api.NodeWhile, yes, nothing),
		"for without a body":           node(api.NodeFor, nothing, nothing, nothing, nothing),
		"if without a body":            node(api.NodeIf, yes, nothing, empty),
		"label of nothing":             node(api.NodeLabel, nothing),
		"label of a let":               node(api.NodeLabel, sample(api.NodeLet)),
		"label of a function":          node(api.NodeLabel, sample(api.NodeDeclare)),
		"if of a const":                node(api.NodeIf, yes, sample(api.NodeConst), nothing),
		"else of a function":           node(api.NodeIf, yes, empty, sample(api.NodeDeclare)),
		"loop of a let":                node(api.NodeWhile, yes, sample(api.NodeLet)),
		"for of a let":                 node(api.NodeFor, nothing, nothing, nothing, sample(api.NodeLet)),
		"for of of a const":            {Kind: api.NodeForOf, Op: "let", Kids: []api.Node{yes, sample(api.NodeConst)}},
		"try alone":                    node(api.NodeTry, block, nothing, nothing),
		"try of nothing":               node(api.NodeTry, nothing, block, block),
		"try of two":                   node(api.NodeTry, block, block),
		"try of no block":              node(api.NodeTry, empty, block, block),
		"catch of no block":            node(api.NodeTry, block, empty, block),
		"finally of no block":          node(api.NodeTry, block, block, empty),
		"nothing with kids":            node(api.NodeReturn, api.Node{Kids: []api.Node{yes}}),
		"nothing with nothing":         node(api.NodeReturn, api.Node{Kids: []api.Node{nothing}}),
		"a name with a kid":            node(api.NodeExpr, node(api.NodeName, yes)),
		"a number with nothing":        node(api.NodeExpr, node(api.NodeNumber, nothing)),
		"a break with a kid":           node(api.NodeBreak, yes),
		"an empty one with one":        node(api.NodeEmpty, empty),
		"a parameter with a kid":       {Kind: api.NodeDeclare, Kids: []api.Node{node(api.NodeName, yes), block}},
		"a parameter that is a number": {Kind: api.NodeDeclare, Kids: []api.Node{node(api.NodeNumber), block}},
		"a parameter of nothing":       {Kind: api.NodeDeclare, Kids: []api.Node{nothing, block}},
		"a function of nothing":        {Kind: api.NodeDeclare, Kids: []api.Node{nothing}},
		"a function without a body":    {Kind: api.NodeDeclare, Kids: []api.Node{node(api.NodeName)}},
		"a function of none":           {Kind: api.NodeDeclare},
		"a function's body first":      {Kind: api.NodeDeclare, Kids: []api.Node{block, node(api.NodeName)}},
		"a function as a statement":    sample(api.NodeFunction),
		"a declared one as a value":    node(api.NodeExpr, sample(api.NodeDeclare)),
		"a block as a value":           node(api.NodeExpr, block),
		"a statement as a value":       node(api.NodeExpr, node(api.NodeExpr, yes)),
		"a property as a value":        node(api.NodeExpr, sample(api.NodeProp)),
		"an object of a value":         node(api.NodeExpr, node(api.NodeObject, yes)),
		"an array of a property":       node(api.NodeExpr, node(api.NodeArray, sample(api.NodeProp))),
		"an array of nothing":          node(api.NodeExpr, node(api.NodeArray, nothing)),
		"a call of none":               node(api.NodeExpr, node(api.NodeCall)),
		"a call with nothing":          node(api.NodeExpr, node(api.NodeCall, yes, nothing)),
		"new of none":                  node(api.NodeExpr, node(api.NodeNew)),
		"giving to a number":           node(api.NodeExpr, api.Node{Kind: api.NodeAssign, Op: "=", Kids: []api.Node{node(api.NodeNumber), yes}}),
		"giving to a call":             node(api.NodeExpr, api.Node{Kind: api.NodeAssign, Op: "=", Kids: []api.Node{node(api.NodeCall, yes), yes}}),
		"counting a number":            node(api.NodeExpr, api.Node{Kind: api.NodeUpdate, Op: "++", Name: "pre", Kids: []api.Node{node(api.NodeNumber)}}),
		"a value as a statement":       yes,
		"a block of a value":           node(api.NodeBlock, yes),
		"a block of nothing":           node(api.NodeBlock, nothing),
		"a program in a block":         node(api.NodeBlock, program()),
		"delete of a block":            node(api.NodeExpr, api.Node{Kind: api.NodeUnary, Op: "delete", Kids: []api.Node{block}}),
		"delete of nothing":            node(api.NodeExpr, api.Node{Kind: api.NodeUnary, Op: "delete", Kids: []api.Node{nothing}}),
	} {
		if agrees(t, what, asItem(n)) {
			t.Error("right:", what)
		}
	}
}

// P7.2: Ops: of some kinds one of theirs; of the others any.
func TestOps(t *testing.T) {
	all := strings.Fields("x init get set * ** delete void typeof + - ~ ! ++ -- +- | ^ & == != === !== < <= > >= in instanceof << >> >>> / % && || = += -= *= /= %= <<= >>= >>>= &= |= ^= &&= ||= ?? ?. . [ ] ( let const var of pre post if Delete IN")
	all = append(all, "", " ", "\x00", "+ ", " +", "* ", "let ", strings.Repeat("+", 1000))
	for kind := range forms {
		right := 0
		for _, op := range all {
			n := sample(kind)
			n.Op = op
			if kind != 0 && agrees(t, fmt.Sprintf("Op %q of %d", op, kind), within(n)) {
				right++
			}
		}
		want := len(all)
		if list, some := ops[kind]; some {
			want = len(list)
		}
		if kind != 0 && right != want {
			t.Errorf("kind %d: %d Ops", kind, right)
		}
	}
}

// P7.2: Names, Nums and Ats are any, but a NodeUpdate's Name.
func TestOtherFields(t *testing.T) {
	for kind := range forms {
		if kind == 0 {
			continue
		}
		for _, name := range []string{"", "pre", "post", "a", "Pre", "pre ", "print", "this", "\x00\xff", strings.Repeat("n", 5000)} {
			n := sample(kind)
			n.Name, n.Num = name, 1<<63+5
			want := kind != api.NodeUpdate || name == "pre" || name == "post"
			if got := agrees(t, fmt.Sprintf("Name %q of %d", name, kind), within(n)); got != want {
				t.Errorf("kind %d, Name %q: %v", kind, name, got)
			}
		}
		for _, by := range []int{-1 << 40, -1, 1 << 40} {
			n := within(sample(kind))
			walk(&n, func(n *api.Node) { n.At *= by })
			if !agrees(t, "places", n) {
				t.Errorf("kind %d, places times %d", kind, by)
			}
		}
	}
}

// P7.2: a yield stands in a function with a *, at whatever place of it, and not in one within that.
func TestYield(t *testing.T) {
	yield := node(api.NodeExpr, node(api.NodeYield, api.Node{}))
	function := func(kind int, op string, kids ...api.Node) api.Node {
		return api.Node{Kind: kind, Op: op, Kids: []api.Node{node(api.NodeBlock, kids...)}}
	}
	declare := func(op string, kids ...api.Node) api.Node { return function(api.NodeDeclare, op, kids...) }
	value := func(op string, kids ...api.Node) api.Node {
		return node(api.NodeExpr, function(api.NodeFunction, op, kids...))
	}
	property := func(op string, f api.Node) api.Node {
		return node(api.NodeExpr, node(api.NodeObject, api.Node{Kind: api.NodeProp, Op: op, Kids: []api.Node{node(api.NodeTrue), f.Kids[0]}}))
	}
	for what, k := range map[string]struct {
		n     api.Node
		right bool
	}{
		"program":               {yield, false},
		"block":                 {node(api.NodeBlock, yield), false},
		"declared":              {declare("", yield), false},
		"declared *":            {declare("*", yield), true},
		"value":                 {value("", yield), false},
		"value *":               {value("*", yield), true},
		"declared in *":         {declare("*", declare("", yield)), false},
		"value in *":            {declare("*", value("", yield)), false},
		"value in value *":      {value("*", value("", yield)), false},
		"* in declared":         {declare("", declare("*", yield)), true},
		"* in *":                {declare("*", value("*", yield), yield), true},
		"behind one within":     {declare("*", value("", node(api.NodeEmpty)), yield), true},
		"behind a *":            {declare("", value("*", yield), yield), false},
		"behind a * at the top": {node(api.NodeBlock, declare("*", yield), yield), false},
		"getter":                {declare("*", property("get", value("", yield))), false},
		"getter with a *":       {property("get", value("*", yield)), true},
		"deep in blocks":        {declare("*", nested(yield, 50, inBlock)), true},
		"yield of a yield":      {declare("*", node(api.NodeExpr, node(api.NodeYield, node(api.NodeYield, api.Node{})))), true},
	} {
		if got := agrees(t, what, placed(program(k.n))); got != k.right {
			t.Errorf("%s: %v", what, got)
		}
	}
}

// P7.2: the trees of texts are right.
func TestTreesOfTexts(t *testing.T) {
	for _, s := range []string{
		"", ";", "x;", "let a; { let a; a; } a;", "function* f(a, b) { yield a; return b; }",
		"a: for (;;) { for (let x of y) { continue a; } } try { throw 1; } catch (e) { } finally { }",
		"x = {a: 1, get b() { return 1; }, set c(d) { }, [e]: function f() { }};", "delete a.b; a.b++; --c; new a.b(1).c(2);",
		"if (a) b; else if (c) d; while (1) break; const q = a ? b : c && d || e; this; null; undefined; true; false; 'a'; 1;",
		"return; return 1; break; continue; b; b; let a; let a; print = 1;",
		strings.Repeat("a+b;", 16384), strings.Repeat(";", 65536), "a" + strings.Repeat("+a", 297) + ";",
	} {
		if n := tree(t, s); !scope.Right(n) {
			t.Errorf("not right: %.100s", s)
		}
	}
}
