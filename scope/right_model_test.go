package scope_test

import (
	"regexp"
	"slices"
	"strings"
	"testing"

	"brazier/api"
	"brazier/scope"
)

// What Right is to tell is asked here in another way: the kinds of a node's kids are a text, which an expression must fit.

// lastKind is beyond all kinds, so that some are tried that no node has.
const lastKind = 50

const (
	leaves     = "Number String Name True False Null Undefined This"
	others     = "Array Object Function Member Call New Unary Update Binary Logic Cond Assign Yield"
	statements = "Return If While For ForOf Break Continue Label Throw Try Block Empty Expr"
)

var kindsByName = map[string]int{
	"Number": 1, "String": 2, "Name": 3, "True": 4, "False": 5, "Null": 6, "Undefined": 7, "This": 8, "Array": 9, "Object": 10, "Prop": 11, "Function": 12,
	"Member": 13, "Call": 14, "New": 15, "Unary": 16, "Update": 17, "Binary": 18, "Logic": 19, "Cond": 20, "Assign": 21, "Yield": 22,
	"Let": 31, "Const": 32, "Declare": 33, "Return": 34, "If": 35, "While": 36, "For": 37, "ForOf": 38, "Break": 39, "Continue": 40, "Label": 41, "Throw": 42,
	"Try": 43, "Block": 44, "Empty": 45, "Expr": 46, "Program": 47,
}

// kidForms: of each kind what its kids are: X an expression, G a name or member, S a Stmt, I an Item, B a block, P a property, N a name, O nothing.
var kidForms = map[string]string{
	"Number": "", "String": "", "Name": "", "True": "", "False": "", "Null": "", "Undefined": "", "This": "",
	"Array": "X*", "Object": "P*", "Prop": "XX", "Function": "N*B", "Declare": "N*B", "Member": "XX", "Call": "XX*", "New": "XX*",
	"Unary": "X", "Update": "G", "Binary": "XX", "Logic": "XX", "Cond": "XXX", "Assign": "GX", "Yield": "(X|O)",
	"Let": "(X|O)", "Const": "X", "Return": "(X|O)", "If": "XS(S|O)", "While": "XS", "For": "(X|O)(X|O)(X|O)S", "ForOf": "XS",
	"Break": "", "Continue": "", "Label": "S", "Throw": "X", "Expr": "X", "Try": "B(BO|OB|BB)", "Block": "I*", "Empty": "", "Program": "I*",
}

// opsOf: of each kind whose Op must be one of some, which.
var opsOf = map[string]string{
	"Prop": "init get set", "Function": "* ", "Declare": "* ", "Unary": "delete void typeof + - ~ !", "Update": "++ --",
	"Binary": "| ^ & == != === !== < <= > >= in instanceof << >> >>> + - * / %", "Logic": "&& ||",
	"Assign": "= += -= *= /= %= <<= >>= >>>= &= |= ^=", "ForOf": "let const",
}

// letter is what stands for a kind in a text of kinds.
func letter(kind int) string { return string(rune(0x1000 + kind)) }

func anyOf(names string) string {
	s := "["
	for _, name := range strings.Fields(names) {
		s += letter(kindsByName[name])
	}
	return s + "]"
}

var forms = func() map[int]*regexp.Regexp {
	letters := strings.NewReplacer("X", anyOf(leaves+" "+others), "G", anyOf("Name Member"), "S", anyOf(statements), "I", anyOf(statements+" Let Const Declare"),
		"B", letter(44), "P", letter(11), "N", letter(3), "O", letter(0))
	m := map[int]*regexp.Regexp{0: regexp.MustCompile("^$")}
	for name, form := range kidForms {
		m[kindsByName[name]] = regexp.MustCompile("^(" + letters.Replace(form) + ")$")
	}
	return m
}()

var ops = func() map[int][]string {
	m := map[int][]string{}
	for name, list := range opsOf {
		m[kindsByName[name]] = strings.Split(list, " ")
	}
	return m
}()

// rightly tells what Right is to tell of a tree that is not too great.
func rightly(n api.Node) bool {
	right := n.Kind == api.NodeProgram
	var used, declared []int
	var look func(n api.Node, star, param bool)
	look = func(n api.Node, star, param bool) {
		kinds := ""
		for _, k := range n.Kids {
			kinds += letter(k.Kind)
		}
		form, known := forms[n.Kind]
		right = right && known && form.MatchString(kinds)
		if list, some := ops[n.Kind]; some {
			right = right && slices.Contains(list, n.Op)
		}
		if n.Kind == api.NodeUpdate {
			right = right && (n.Name == "pre" || n.Name == "post")
		}
		if n.Kind == api.NodeYield {
			right = right && star
		}
		function := n.Kind == api.NodeFunction || n.Kind == api.NodeDeclare
		if function {
			star = n.Op == "*"
		}
		switch {
		case n.Kind == api.NodeName && !param:
			used = append(used, n.At)
		case n.Kind == api.NodeName, n.Kind == api.NodeLet, n.Kind == api.NodeConst, n.Kind == api.NodeDeclare, n.Kind == api.NodeForOf,
			n.Kind == api.NodeFunction && n.Name != "",
			n.Kind == api.NodeTry && len(n.Kids) > 1 && n.Kids[1].Kind != 0:
			declared = append(declared, n.At)
		}
		for i, k := range n.Kids {
			look(k, star, function && i < len(n.Kids)-1)
		}
	}
	look(n, false, false)
	return right && unlike(used) && unlike(declared)
}

func unlike(l []int) bool {
	slices.Sort(l)
	return len(slices.Compact(slices.Clone(l))) == len(l)
}

// agrees tells whether a tree is right, once Right and Resolve say so, or say that it is not.
func agrees(t *testing.T, what string, n api.Node) bool {
	t.Helper()
	want := rightly(n)
	if got := scope.Right(n); got != want {
		t.Errorf("%s: Right: %v, want %v: %+v", what, got, want, n)
	}
	s, at, e := scope.Resolve(n)
	if (e == api.ErrScopeTree) == want || e == api.ErrScopeTree && (at != n.At || s.Scopes != nil) {
		t.Errorf("%s: Resolve: %d at %d, want right: %v: %+v", what, e, at, want, n)
	}
	return want
}

// sample is a small node of that kind that is right in a function with a *, its places aside; of a kind that is none: a node of that kind.
func sample(kind int) api.Node {
	a, yes, empty, block := node(api.NodeName), node(api.NodeTrue), node(api.NodeEmpty), node(api.NodeBlock)
	n := node(kind)
	switch kind {
	case api.NodeUnary, api.NodeConst, api.NodeThrow, api.NodeExpr, api.NodeYield, api.NodeLet, api.NodeReturn, api.NodeArray:
		n.Kids = []api.Node{yes}
	case api.NodeUpdate:
		n.Kids, n.Name = []api.Node{a}, "pre"
	case api.NodeMember, api.NodeBinary, api.NodeLogic, api.NodeCall, api.NodeNew, api.NodeProp:
		n.Kids = []api.Node{yes, yes}
	case api.NodeAssign:
		n.Kids = []api.Node{a, yes}
	case api.NodeObject:
		n.Kids = []api.Node{sample(api.NodeProp)}
	case api.NodeFunction, api.NodeDeclare:
		n.Kids, n.Name = []api.Node{a, block}, "f"
	case api.NodeCond:
		n.Kids = []api.Node{yes, yes, yes}
	case api.NodeIf:
		n.Kids = []api.Node{yes, empty, empty}
	case api.NodeWhile, api.NodeForOf:
		n.Kids = []api.Node{yes, empty}
	case api.NodeFor:
		n.Kids = []api.Node{yes, yes, yes, empty}
	case api.NodeLabel, api.NodeBlock, api.NodeProgram:
		n.Kids = []api.Node{empty}
	case api.NodeTry:
		n.Kids = []api.Node{block, block, block}
	}
	n.Op = firstOp(kind)
	return n
}

func firstOp(kind int) string {
	if list, some := ops[kind]; some {
		return list[0]
	}
	return ""
}

// within is a program in which a node stands, in a function with a *, where its kind may stand, if there is such a place.
func within(n api.Node) api.Node {
	switch {
	case n.Kind == api.NodeProgram:
		return placed(n)
	case n.Kind == api.NodeProp:
		n = node(api.NodeExpr, node(api.NodeObject, n))
	case n.Kind > 0 && n.Kind <= api.NodeYield:
		n = node(api.NodeExpr, n)
	}
	return asItem(n)
}

// asItem is a program in which a node stands where an Item may, in a function with a *.
func asItem(n api.Node) api.Node {
	return placed(program(api.Node{Kind: api.NodeDeclare, Name: "g", Op: "*", Kids: []api.Node{node(api.NodeBlock, n)}}))
}
