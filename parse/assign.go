package parse

import "brazier/api"

// rows of signs stand between two.
const rows = 10

// rowOf tells a sign's row, those that bind most first; of what is none, rows.
func rowOf(sign string) int {
	switch sign {
	case "*", "/", "%":
		return 0
	case "+", "-":
		return 1
	case "<<", ">>", ">>>":
		return 2
	case "<", "<=", ">", ">=", "in", "instanceof":
		return 3
	case "==", "!=", "===", "!==":
		return 4
	case "&":
		return 5
	case "^":
		return 6
	case "|":
		return 7
	case "&&":
		return 8
	case "||":
		return 9
	}
	return rows
}

func (r *reader) assign() api.Node {
	defer r.in(r.beginsAssign())()
	if r.beginsYield() {
		return r.yield()
	}
	n := r.cond()
	if !r.is("=", "+=", "-=", "*=", "/=", "%=", "<<=", ">>=", ">>>=", "&=", "|=", "^=") {
		return n
	}
	canBeGiven(n)
	return of(api.NodeAssign, r.next().Text, n, r.assign())
}

// assignUnless reads an Assign, or nothing, if that sign stands there already.
func (r *reader) assignUnless(sign string) api.Node {
	if r.is(sign) {
		return api.Node{}
	}
	return r.assign()
}

func (r *reader) yield() api.Node {
	n := api.Node{Kind: api.NodeYield, At: r.next().At, Kids: []api.Node{{}}}
	if !r.is(")", "]", "}", ",", ";", ":") && r.now().Kind != api.TokenEnd {
		n.Kids[0] = r.assign()
	}
	return n
}

// of is a node that is made of others: it begins where the first of them does.
func of(kind int, op string, kids ...api.Node) api.Node {
	return api.Node{Kind: kind, At: kids[0].At, Op: op, Kids: kids}
}

// canBeGiven throws, unless something can be given to what n names.
func canBeGiven(n api.Node) {
	if n.Kind != api.NodeName && n.Kind != api.NodeMember {
		panic(fault{n.At, api.ErrParseLeft})
	}
}

func (r *reader) cond() api.Node {
	n := r.binary()
	if !r.take("?") {
		return n
	}
	yes := r.assign()
	r.expect(":")
	return of(api.NodeCond, "", n, yes, r.assign())
}

// binary reads all operands first; then those of each row come together, so that the signs that bind most have theirs ahead of the others.
func (r *reader) binary() api.Node {
	kids := []api.Node{r.unary()}
	var signs []string
	for rowOf(fixed(r.now())) < rows {
		signs = append(signs, r.next().Text)
		kids = append(kids, r.unary())
	}
	for row := range rows {
		kids, signs = together(kids, signs, row)
	}
	return kids[0]
}

// together makes one of each two between which a sign of the row stands, from the left. It tells what is left, in the same memory: what is written never overtakes what is read.
func together(kids []api.Node, signs []string, row int) ([]api.Node, []string) {
	kidsLeft, signsLeft := kids[:1], signs[:0]
	for i, sign := range signs {
		right := kids[i+1]
		if rowOf(sign) != row {
			kidsLeft, signsLeft = append(kidsLeft, right), append(signsLeft, sign)
			continue
		}
		last := len(kidsLeft) - 1
		kidsLeft[last] = of(kindOf(sign), sign, kidsLeft[last], right)
	}
	return kidsLeft, signsLeft
}

func kindOf(sign string) int {
	if sign == "&&" || sign == "||" {
		return api.NodeLogic
	}
	return api.NodeBinary
}
