package scope_test

import (
	"testing"

	"brazier/api"
	"brazier/scope"
)

// declarer is a node, which declares something at a place or does not, and what it is.
type declarer struct {
	what string
	n    api.Node
}

// declarers are nodes of all kinds that declare something at that place.
func declarers(at int) []declarer {
	nothing, yes, empty, block := api.Node{}, node(api.NodeTrue), node(api.NodeEmpty), node(api.NodeBlock)
	return []declarer{
		{"let", api.Node{Kind: api.NodeLet, At: at, Name: "a", Kids: []api.Node{nothing}}},
		{"let without a name", api.Node{Kind: api.NodeLet, At: at, Kids: []api.Node{nothing}}},
		{"const", api.Node{Kind: api.NodeConst, At: at, Name: "b", Kids: []api.Node{yes}}},
		{"declare", api.Node{Kind: api.NodeDeclare, At: at, Name: "c", Kids: []api.Node{block}}},
		{"declare without a name", api.Node{Kind: api.NodeDeclare, At: at, Kids: []api.Node{block}}},
		{"for of", api.Node{Kind: api.NodeForOf, At: at, Name: "d", Op: "let", Kids: []api.Node{yes, empty}}},
		{"try with a catch", api.Node{Kind: api.NodeTry, At: at, Name: "e", Kids: []api.Node{block, block, nothing}}},
		{"try with both, without a name", api.Node{Kind: api.NodeTry, At: at, Kids: []api.Node{block, block, block}}},
		{"function with a name", node(api.NodeExpr, api.Node{Kind: api.NodeFunction, At: at, Name: "f", Kids: []api.Node{block}})},
		{"parameter", node(api.NodeExpr, api.Node{Kind: api.NodeFunction, Kids: []api.Node{{Kind: api.NodeName, At: at, Name: "g"}, block}})},
		{"second parameter", api.Node{Kind: api.NodeDeclare, At: -at, Name: "h", Kids: []api.Node{{Kind: api.NodeName, At: at + 100, Name: "g"}, {Kind: api.NodeName, At: at, Name: "i"}, block}}},
	}
}

// othersAt are nodes that declare nothing at their place.
func othersAt(at int) []declarer {
	nothing, block, empty, yes := api.Node{}, node(api.NodeBlock), node(api.NodeEmpty), node(api.NodeTrue)
	return []declarer{
		{"a name that is used", node(api.NodeExpr, api.Node{Kind: api.NodeName, At: at, Name: "a"})},
		{"try without a catch", api.Node{Kind: api.NodeTry, At: at, Name: "e", Kids: []api.Node{block, nothing, block}}},
		{"function without a name", node(api.NodeExpr, api.Node{Kind: api.NodeFunction, At: at, Kids: []api.Node{block}})},
		{"block", api.Node{Kind: api.NodeBlock, At: at}},
		{"empty", api.Node{Kind: api.NodeEmpty, At: at}},
		{"label", api.Node{Kind: api.NodeLabel, At: at, Name: "a", Kids: []api.Node{empty}}},
		{"loop", api.Node{Kind: api.NodeFor, At: at, Kids: []api.Node{{At: at}, {At: at}, {At: at}, empty}}},
		{"text", node(api.NodeExpr, api.Node{Kind: api.NodeString, At: at, Name: "a"})},
		{"expression", api.Node{Kind: api.NodeExpr, At: at, Kids: []api.Node{{Kind: api.NodeTrue, At: at}}}},
		{"if", api.Node{Kind: api.NodeIf, At: at, Kids: []api.Node{yes, empty, {At: at}}}},
	}
}

// P7.2: the places of all that declare are unlike each other.
func TestPlacesOfDeclarers(t *testing.T) {
	for _, a := range declarers(50) {
		for _, b := range declarers(50) {
			if agrees(t, a.what+", "+b.what, program(a.n, b.n)) {
				t.Errorf("alike, but right: %s, %s", a.what, b.what)
			}
			if agrees(t, a.what+", "+b.what, program(a.n, node(api.NodeBlock, node(api.NodeEmpty), b.n))) {
				t.Errorf("alike, but right: %s, %s in a block", a.what, b.what)
			}
		}
		for _, b := range declarers(51) {
			if !agrees(t, a.what+", "+b.what, program(a.n, b.n)) {
				t.Errorf("unlike, but not right: %s, %s", a.what, b.what)
			}
		}
	}
}

// P7.2: those of others may be alike, and like those that declare.
func TestPlacesOfOthers(t *testing.T) {
	for _, a := range othersAt(50) {
		for i, b := range othersAt(50) {
			if got := agrees(t, a.what+", "+b.what, program(a.n, b.n)); got != (i > 0 || a.what != b.what) {
				t.Errorf("%s, %s: %v", a.what, b.what, got)
			}
		}
		for _, b := range declarers(50) {
			if !agrees(t, a.what+", "+b.what, program(a.n, b.n)) || !agrees(t, a.what+", "+b.what, program(b.n, a.n)) {
				t.Errorf("alike, and not right: %s, %s", a.what, b.what)
			}
		}
	}
	n := program()
	n.At = 50
	for _, b := range declarers(50) {
		n.Kids = []api.Node{b.n}
		if !agrees(t, b.what, n) {
			t.Error("the program's place:", b.what)
		}
	}
}

// P7.2: a function's own place and its parameters'; a place within another of the same.
func TestPlacesWithin(t *testing.T) {
	name := func(at int) api.Node { return api.Node{Kind: api.NodeName, At: at, Name: "a"} }
	function := func(name string, at int, kids ...api.Node) api.Node {
		return program(node(api.NodeExpr, api.Node{Kind: api.NodeFunction, At: at, Name: name, Kids: append(kids, node(api.NodeBlock))}))
	}
	for what, k := range map[string]struct {
		n     api.Node
		right bool
	}{
		"function and parameter":             {function("f", 5, name(5)), false},
		"function without a name":            {function("", 5, name(5)), true},
		"two parameters":                     {function("", 5, name(6), name(6)), false},
		"three parameters":                   {function("f", 5, name(6), name(7), name(6)), false},
		"parameters apart":                   {function("f", 5, name(6), name(7)), true},
		"let in a let's function":            {program(api.Node{Kind: api.NodeLet, At: 5, Kids: function("", 5).Kids[0].Kids}), true},
		"let of a function with a name":      {program(api.Node{Kind: api.NodeLet, At: 5, Kids: function("f", 5).Kids[0].Kids}), false},
		"uses of one":                        {program(node(api.NodeExpr, node(api.NodeCall, name(1), name(1)))), false},
		"uses apart":                         {program(node(api.NodeExpr, node(api.NodeCall, name(1), name(2)))), true},
		"uses far apart":                     {program(node(api.NodeExpr, name(1)), node(api.NodeBlock, node(api.NodeIf, name(2), node(api.NodeExpr, name(1)), api.Node{}))), false},
		"given and used":                     {program(node(api.NodeExpr, api.Node{Kind: api.NodeAssign, Op: "=", Kids: []api.Node{name(1), name(1)}})), false},
		"counted and used":                   {program(node(api.NodeExpr, node(api.NodeArray, api.Node{Kind: api.NodeUpdate, Op: "++", Name: "pre", Kids: []api.Node{name(1)}}, name(1)))), false},
		"a key that is a name":               {program(node(api.NodeExpr, api.Node{Kind: api.NodeMember, Op: ".", Kids: []api.Node{name(1), name(1)}})), false},
		"deleted and used":                   {program(node(api.NodeExpr, node(api.NodeArray, api.Node{Kind: api.NodeUnary, Op: "delete", Kids: []api.Node{name(1)}}, name(1)))), false},
		"used where a parameter is declared": {program(api.Node{Kind: api.NodeDeclare, At: 3, Kids: []api.Node{name(1), node(api.NodeBlock, node(api.NodeExpr, name(1)))}}), true},
		"at 0 and below":                     {program(node(api.NodeExpr, node(api.NodeArray, name(0), name(-1), name(-1<<63), name(1<<63-1)))), true},
		"at 0 twice":                         {program(node(api.NodeExpr, node(api.NodeArray, name(0), name(0)))), false},
		"below 0 twice":                      {program(node(api.NodeExpr, node(api.NodeArray, name(-1), name(-1)))), false},
	} {
		if got := agrees(t, what, k.n); got != k.right {
			t.Errorf("%s: %v", what, got)
		}
	}
}

// P7.2: one pair among many.
func TestPlacesOfMany(t *testing.T) {
	n := program()
	for i := range 1000 {
		n.Kids = append(n.Kids, node(api.NodeExpr, api.Node{Kind: api.NodeName, At: i * 7 % 1000, Name: "a"}), api.Node{Kind: api.NodeLet, At: i * 13 % 1000, Name: "a", Kids: []api.Node{{}}})
	}
	if !scope.Right(n) {
		t.Error("not right")
	}
	for _, i := range []int{0, 2, 500, 1996} {
		one := copied(n)
		one.Kids[i].Kids[0].At = one.Kids[i+2].Kids[0].At
		other := copied(n)
		other.Kids[i+1].At = other.Kids[(i+1001)%2000].At
		if scope.Right(one) || scope.Right(other) {
			t.Error("right:", i)
		}
	}
}
