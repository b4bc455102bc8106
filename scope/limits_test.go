package scope_test

import (
	"fmt"
	"slices"
	"strings"
	"testing"

	"brazier/api"
	"brazier/scope"
)

// takes: a tree is right, and is resolved; refuses: it is not.
func takes(t *testing.T, what string, n api.Node) {
	t.Helper()
	if !scope.Right(n) {
		t.Error("not right:", what)
	}
	fineTree(t, what, n)
}

func refuses(t *testing.T, what string, n api.Node) {
	t.Helper()
	n.At = 77
	if scope.Right(n) {
		t.Error("right:", what)
	}
	wrongTree(t, what, n, 77, api.ErrScopeTree)
}

// nested is n within so many others, each made of the one within it.
func nested(n api.Node, times int, around func(api.Node) api.Node) api.Node {
	for range times {
		n = around(n)
	}
	return n
}

func inBlock(n api.Node) api.Node { return node(api.NodeBlock, n) }

// P7.2: MaxTree nodes one below the other, of whatever kinds, and one more.
func TestMaxTree(t *testing.T) {
	empty, yes, nothing := node(api.NodeEmpty), node(api.NodeTrue), api.Node{}
	labels := 0
	for what, k := range map[string]struct {
		last   api.Node
		levels int // of last
		around func(api.Node) api.Node
		more   int // levels between them and the program
	}{
		"blocks": {empty, 1, inBlock, 0},
		"labels": {empty, 1, func(n api.Node) api.Node {
			labels++
			return api.Node{Kind: api.NodeLabel, Name: fmt.Sprint("a", labels), Kids: []api.Node{n}}
		}, 0},
		"ifs":        {empty, 1, func(n api.Node) api.Node { return node(api.NodeIf, yes, n, nothing) }, 0},
		"else":       {empty, 1, func(n api.Node) api.Node { return node(api.NodeIf, yes, empty, n) }, 0},
		"loops":      {empty, 1, func(n api.Node) api.Node { return node(api.NodeFor, nothing, nothing, nothing, n) }, 0},
		"signs":      {yes, 1, func(n api.Node) api.Node { return api.Node{Kind: api.NodeUnary, Op: "-", Kids: []api.Node{n}} }, 1},
		"left sums":  {yes, 1, func(n api.Node) api.Node { return api.Node{Kind: api.NodeBinary, Op: "+", Kids: []api.Node{n, yes}} }, 1},
		"right sums": {yes, 1, func(n api.Node) api.Node { return api.Node{Kind: api.NodeBinary, Op: "+", Kids: []api.Node{yes, n}} }, 1},
		"arrays":     {yes, 1, func(n api.Node) api.Node { return node(api.NodeArray, n) }, 1},
		"calls":      {yes, 1, func(n api.Node) api.Node { return node(api.NodeCall, yes, yes, n, yes) }, 1},
		"of nothing": {api.Node{Kind: api.NodeFor, Kids: []api.Node{nothing, nothing, nothing, empty}}, 2, inBlock, 0},
	} {
		for levels := api.MaxTree - 2; levels <= api.MaxTree+2; levels++ {
			n := nested(k.last, levels-k.levels-k.more-1, k.around)
			if k.more > 0 {
				n = node(api.NodeExpr, n)
			}
			if n = program(empty, n, empty); levels <= api.MaxTree {
				takes(t, what, n)
			} else {
				refuses(t, what, n)
			}
		}
	}
}

// P7.2: a node of nothing stands below another as well.
func TestNothingIsANode(t *testing.T) {
	let := func(levels int) api.Node {
		return program(nested(api.Node{Kind: api.NodeLet, Name: "a", Kids: []api.Node{{}}}, levels-3, inBlock))
	}
	takes(t, "let", let(api.MaxTree))
	refuses(t, "let", let(api.MaxTree+1))
	var kids []api.Node
	for len(kids) < api.MaxNodes-3 {
		kids = append(kids, node(api.NodeEmpty))
	}
	last := api.Node{Kind: api.NodeLet, Name: "a", Kids: []api.Node{{}}}
	takes(t, "all", program(append(slices.Clone(kids), last)...))
	refuses(t, "one more", program(append(slices.Clone(kids), last, node(api.NodeEmpty))...))
}

// P7.2: MaxNodes in all, and one more.
func TestMaxNodes(t *testing.T) {
	empties := make([]api.Node, api.MaxNodes+1)
	for i := range empties {
		empties[i].Kind = api.NodeEmpty
	}
	takes(t, "all", program(empties[:api.MaxNodes-1]...))
	refuses(t, "one more", program(empties[:api.MaxNodes]...))
	refuses(t, "two more", program(empties...))
	// Deep and broad.
	takes(t, "deep", program(nested(node(api.NodeBlock, empties[:api.MaxNodes-200]...), 198, inBlock)))
	refuses(t, "deep, one more", program(nested(node(api.NodeBlock, empties[:api.MaxNodes-199]...), 198, inBlock)))
}

// P7.2: each node is counted as often as it stands there, even if it stands in memory once.
func TestSharedNodes(t *testing.T) {
	thousand := slices.Repeat([]api.Node{node(api.NodeEmpty)}, 1000)
	var kids []api.Node
	for range 130 {
		kids = append(kids, api.Node{Kind: api.NodeBlock, Kids: thousand})
	}
	kids = append(kids, thousand[:api.MaxNodes-1-130*1001]...)
	takes(t, "all", program(kids...))
	refuses(t, "one more", program(append(kids, node(api.NodeEmpty))...))
	// A pair of pairs of pairs ..: 1 + 2 + 4 + .. nodes.
	twice := func(n api.Node) api.Node { return node(api.NodeBlock, n, n) }
	takes(t, "pairs", program(nested(node(api.NodeBlock), 15, twice)))
	takes(t, "pairs: MaxNodes in all", program(nested(node(api.NodeBlock), 16, twice)))
	for _, levels := range []int{17, 18, 20, 60, 250, 298, 299, 400} {
		refuses(t, "pairs", program(nested(node(api.NodeBlock), levels, twice)))
	}
}

// P7.2, R1: a tree without an end.
func TestEndlessTrees(t *testing.T) {
	for _, kids := range []int{1, 2, 7} {
		list := make([]api.Node, kids)
		for i := range list {
			list[i] = api.Node{Kind: api.NodeBlock, Kids: list}
		}
		refuses(t, "without an end", program(list...))
		refuses(t, "without an end", api.Node{Kind: api.NodeProgram, Kids: list[:1]})
		list[0].Kind = 0
		refuses(t, "nothing without an end", api.Node{Kind: api.NodeProgram, Kids: list})
		refuses(t, "nothing without an end", program(api.Node{Kind: api.NodeLet, Kids: list[:1]}))
	}
}

// repeated is the form with each of the numbers from 0 on.
func repeated(form string, times int) string {
	var b strings.Builder
	for i := range times {
		fmt.Fprintf(&b, form, i)
	}
	return b.String()
}

// params are so many, parted by commas, and perhaps the place of a fault ahead of the last.
func params(times int, mark string) string {
	s := strings.TrimSuffix(repeated("p%d, ", times), ", ")
	last := fmt.Sprintf("p%d", times-1)
	return strings.TrimSuffix(s, last) + mark + last
}

// P7.3: MaxVars variables of a function, and one more, of each kind.
func TestMaxVars(t *testing.T) {
	full := repeated("let a%d;", api.MaxVars)
	s := fine(t, full)
	if last := s.Vars[api.MaxVars-1]; s.Scopes[0].Vars != api.MaxVars || len(s.Vars) != api.MaxVars || last.Slot != api.MaxVars-1 || last.Name != "a199" {
		t.Error(told(s))
	}
	for _, more := range []string{"|let b;", "|const b = 1;", "|function b() { }", "|try { } catch (b) { }", "|for (let b of 1) ;", "|for (const b of 1) ;", "{ |let b; }", "{ { |const b = 1; } }", "(function () { { } }); { } |let b; let c; let c;"} {
		wrongHere(t, full+more, api.ErrScopeMany)
		fine(t, repeated("let a%d;", api.MaxVars-1)+strings.Replace(strings.TrimSuffix(more, " let c; let c;"), "|", "", 1))
	}
	// Those of blocks that are left count too.
	half := repeated("let a%d;", api.MaxVars/2)
	fine(t, half+"{"+half+"}")
	fine(t, "{"+half+"} ; {"+half+"}")
	wrongHere(t, half+"{"+half+"} { |let a; }", api.ErrScopeMany)
	wrongHere(t, "{"+half+"let a; } {"+strings.Replace(half, "let a99;", "|let a99;", 1)+"}", api.ErrScopeMany)
}

// P7.3: each function has its own number of them.
func TestMaxVarsOfEach(t *testing.T) {
	full := repeated("let a%d;", api.MaxVars)
	fewer := repeated("let a%d;", api.MaxVars-1)
	fine(t, fewer+"function f("+params(api.MaxVars, "")+") { }")
	fine(t, full+"(function ("+params(api.MaxVars, "")+") { (function () {"+full+"}); });")
	fine(t, fewer+"function f() {"+full+"}")
	fine(t, "function f() { (function () {"+full+"});"+full+"} "+fewer)
	wrongHere(t, "function f() {"+full+"|let b; }", api.ErrScopeMany)
	wrongHere(t, "(function () { (function () {"+full+"}); "+full+"|let b; });", api.ErrScopeMany)
	wrongHere(t, "function f("+params(api.MaxVars+1, "|")+") { }", api.ErrScopeMany)
	wrongHere(t, "function f("+params(api.MaxVars, "")+") { |let b; }", api.ErrScopeMany)
	wrongHere(t, "function f("+params(api.MaxVars, "")+") { |function b() { } }", api.ErrScopeMany)
	fine(t, "function f("+params(100, "")+") {"+repeated("let a%d;", 100)+"}")
	wrongHere(t, "function f("+params(100, "")+") {"+repeated("let a%d;", 100)+"|let b; }", api.ErrScopeMany)
}

// P7.3: a function's own name counts as soon as its parameters are declared, without a look at MaxVars.
func TestMaxVarsAndSelf(t *testing.T) {
	s := fine(t, "(function f("+params(api.MaxVars, "")+") { f; });")
	if self := s.Vars[0]; self.Kind != api.VarSelf || self.Slot != api.MaxVars || s.Scopes[1].Vars != api.MaxVars+1 || s.Scopes[1].Params != api.MaxVars || s.Vars[1].Slot != 0 || s.Uses[0].Var != 0 {
		t.Error(told(s))
	}
	wrongHere(t, "(function f("+params(api.MaxVars, "")+") { |let b; });", api.ErrScopeMany)
	wrongHere(t, "(function f("+params(api.MaxVars+1, "|")+") { });", api.ErrScopeMany)
	fine(t, "(function f("+params(api.MaxVars-1, "")+") { });")
	wrongHere(t, "(function f("+params(api.MaxVars-1, "")+") { |let b; });", api.ErrScopeMany)
	s = fine(t, "(function f("+params(api.MaxVars-2, "")+") { let b; });")
	if last := s.Vars[api.MaxVars-1]; last.Name != "b" || last.Slot != api.MaxVars-1 || s.Vars[0].Slot != api.MaxVars-2 || s.Scopes[1].Vars != api.MaxVars {
		t.Error(told(s))
	}
	wrongHere(t, "(function f("+params(api.MaxVars-2, "")+") { let b; |let c; });", api.ErrScopeMany)
	fine(t, "(function f() {"+repeated("let a%d;", api.MaxVars-1)+"});")
	wrongHere(t, "(function f() {"+repeated("let a%d;", api.MaxVars-1)+"|let b; });", api.ErrScopeMany)
	fine(t, "(function () {"+repeated("let a%d;", api.MaxVars)+"});")
}

// P7.3: ErrScopeTwice is named ahead of ErrScopeMany.
func TestTwiceAheadOfMany(t *testing.T) {
	full := repeated("let a%d;", api.MaxVars)
	wrongHere(t, full+"|let a0; let b;", api.ErrScopeTwice)
	wrongHere(t, full+"|let b; let a0;", api.ErrScopeMany)
	wrongHere(t, "function f("+params(api.MaxVars, "")+", |p7) { }", api.ErrScopeTwice)
	wrongHere(t, "(function f("+params(api.MaxVars, "")+") { |let p7; });", api.ErrScopeTwice)
	wrongHere(t, "x; return; "+full+"|let b;", api.ErrScopeMany)
	wrongHere(t, full+"|x; { let b; }", api.ErrScopeName)
}

// P7.3: MaxFuncs functions, the program among them, and one more.
func TestMaxFuncs(t *testing.T) {
	for _, form := range []string{"function f%d() { }", "(function () { }); /*%d*/", "(function f%d(a) { });", "({get a%d() { }});", "{ function f%d() { } }", "for (let f%d of function* () { }) ;"} {
		s := fine(t, repeated(form, api.MaxFuncs-1))
		if len(s.Scopes) != api.MaxFuncs || s.Scopes[api.MaxFuncs-1].Parent != 0 {
			t.Errorf("%s: %d", form, len(s.Scopes))
		}
	}
	some := repeated("(function () { return function f%d() { }; });", 99) // 198 of them
	if s := fine(t, some+"function f() { }"); len(s.Scopes) != api.MaxFuncs || s.Scopes[198].Parent != 197 {
		t.Error(told(s))
	}
	for _, more := range []string{
		"function f() { } |function g() { }", "function f() { } { |function g() { } }", "(function () { return |function () { }; });", "function f() { |function g() { } }",
		"({get a() { }, set b|(a) { }});", "[function* () { }, |function* g() { }];", "(function f() { }); (|function (a, a) { x; });", "(function f() { }); print(|function () { }, x);",
		"(function (a, b) { ({get x|() { return a; }}); });",
	} {
		wrongHere(t, some+more, api.ErrScopeMany)
	}
	wrongHere(t, some+"function f() { } [|x, function () { }];", api.ErrScopeName)
	wrongHere(t, some+"(function (a, |a) { (function () { (function () { }); }); });", api.ErrScopeTwice)
}

// P7.3: a function is declared with its block, and met behind that: its name may be too much ahead of itself.
func TestManyOfBoth(t *testing.T) {
	both := repeated("function f%d() { }", api.MaxFuncs-1)
	wrongHere(t, both+"|function g() { }", api.ErrScopeMany)
	wrongHere(t, both+"function g() { } |function h() { }", api.ErrScopeMany)
	wrongHere(t, both+"function g() { } |let h;", api.ErrScopeMany)
	wrongHere(t, both+"function g() { } |let f7;", api.ErrScopeTwice)
}
