package scope

import (
	"slices"
	"strings"

	"brazier/api"
)

// partsOf tells what the kids of a node of that kind must be, a letter each; where there may be more or fewer of them, it tells so many, if there can be so many.
//
// The letters: e an expression, g one to which something can be given, s a Stmt, i an Item, b a NodeBlock, p a NodeProp, n a parameter's NodeName; E, S, B: that, or a node of nothing.
func partsOf(kind, kids int) string {
	switch kind {
	case api.NodeArray:
		return strings.Repeat("e", kids)
	case api.NodeCall, api.NodeNew:
		return strings.Repeat("e", max(kids, 1))
	case api.NodeObject:
		return strings.Repeat("p", kids)
	case api.NodeBlock, api.NodeProgram:
		return strings.Repeat("i", kids)
	case api.NodeFunction, api.NodeDeclare:
		return strings.Repeat("n", max(kids-1, 0)) + "b"
	case api.NodeProp, api.NodeMember, api.NodeBinary, api.NodeLogic:
		return "ee"
	case api.NodeAssign:
		return "ge"
	case api.NodeUpdate:
		return "g"
	case api.NodeCond:
		return "eee"
	case api.NodeUnary, api.NodeConst, api.NodeThrow, api.NodeExpr:
		return "e"
	case api.NodeYield, api.NodeLet, api.NodeReturn:
		return "E"
	case api.NodeIf:
		return "esS"
	case api.NodeWhile, api.NodeForOf:
		return "es"
	case api.NodeFor:
		return "EEEs"
	case api.NodeLabel:
		return "s"
	case api.NodeTry:
		return "bBB"
	}
	return ""
}

// mayLack tells whether a node of nothing may stand there.
func mayLack(part byte) bool { return part == 'E' || part == 'S' || part == 'B' }

func isPart(part byte, kind int) bool {
	switch part {
	case 'e', 'E':
		return isExpr(kind)
	case 'g':
		return kind == api.NodeName || kind == api.NodeMember
	case 's', 'S':
		return isStmt(kind)
	case 'i':
		return isStmt(kind) || kind == api.NodeLet || kind == api.NodeConst || kind == api.NodeDeclare
	case 'b', 'B':
		return kind == api.NodeBlock
	case 'p':
		return kind == api.NodeProp
	}
	return kind == api.NodeName
}

func isExpr(kind int) bool {
	return kind >= api.NodeNumber && kind <= api.NodeYield && kind != api.NodeProp
}

func isStmt(kind int) bool { return kind >= api.NodeReturn && kind <= api.NodeExpr }

func isLoop(kind int) bool {
	return kind == api.NodeWhile || kind == api.NodeFor || kind == api.NodeForOf
}

// rightOp tells whether a node's Op is one of its kind; a kind that has none, and a NodeMember, may have any.
func rightOp(n api.Node) bool {
	switch n.Kind {
	case api.NodeFunction, api.NodeDeclare:
		return n.Op == "*" || n.Op == ""
	case api.NodeProp:
		return isOne(n.Op, "init", "get", "set")
	case api.NodeUnary:
		return isOne(n.Op, "delete", "void", "typeof", "+", "-", "~", "!")
	case api.NodeUpdate:
		return isOne(n.Op, "++", "--")
	case api.NodeBinary:
		return isOne(n.Op, "|", "^", "&", "==", "!=", "===", "!==", "<", "<=", ">", ">=", "in", "instanceof", "<<", ">>", ">>>", "+", "-", "*", "/", "%")
	case api.NodeLogic:
		return isOne(n.Op, "&&", "||")
	case api.NodeAssign:
		return isOne(n.Op, "=", "+=", "-=", "*=", "/=", "%=", "<<=", ">>=", ">>>=", "&=", "|=", "^=")
	case api.NodeForOf:
		return isOne(n.Op, "let", "const")
	}
	return true
}

func isOne(text string, of ...string) bool { return slices.Contains(of, text) }
