package parse

import "brazier/api"

func (r *reader) stmt() api.Node {
	if r.is("let", "const", "function") {
		r.wrong(api.ErrParseHere)
	}
	defer r.in(r.beginsStmt())()
	if r.isName() && r.aheadOf(":") {
		return r.label()
	}
	switch fixed(r.now()) {
	case "{":
		return r.block()
	case ";":
		return api.Node{Kind: api.NodeEmpty, At: r.next().At}
	case "if":
		return r.choice()
	case "while":
		return r.while()
	case "for":
		return r.loop()
	case "try":
		return r.try()
	case "break":
		return r.jump(api.NodeBreak)
	case "continue":
		return r.jump(api.NodeContinue)
	}
	return r.simple()
}

func (r *reader) label() api.Node {
	n := api.Node{Kind: api.NodeLabel, At: r.now().At, Name: r.name()}
	r.expect(":")
	n.Kids = []api.Node{r.stmt()}
	return n
}

// simple reads a statement that is an Assign and a semicolon, with or without a word ahead.
func (r *reader) simple() api.Node {
	n := api.Node{Kind: api.NodeExpr, At: r.now().At}
	switch {
	case r.take("return"):
		n.Kind = api.NodeReturn
		n.Kids = []api.Node{r.assignUnless(";")}
	case r.take("throw"):
		n.Kind = api.NodeThrow
		n.Kids = []api.Node{r.assign()}
	default:
		n.Kids = []api.Node{r.assign()}
	}
	r.expect(";")
	return n
}

func (r *reader) jump(kind int) api.Node {
	n := api.Node{Kind: kind, At: r.next().At}
	if r.isName() {
		n.Name = r.name()
	}
	r.expect(";")
	return n
}

func (r *reader) choice() api.Node {
	n := api.Node{Kind: api.NodeIf, At: r.next().At}
	n.Kids = []api.Node{r.inParens(), r.stmt(), {}}
	if r.take("else") {
		n.Kids[2] = r.stmt()
	}
	return n
}

func (r *reader) while() api.Node {
	return api.Node{Kind: api.NodeWhile, At: r.next().At, Kids: []api.Node{r.inParens(), r.stmt()}}
}

func (r *reader) inParens() api.Node {
	r.expect("(")
	n := r.assign()
	r.expect(")")
	return n
}

func (r *reader) loop() api.Node {
	at := r.next().At
	r.expect("(")
	if r.is("let", "const") {
		return r.loopOf(at)
	}
	n := api.Node{Kind: api.NodeFor, At: at}
	for _, behind := range []string{";", ";", ")"} {
		n.Kids = append(n.Kids, r.assignUnless(behind))
		r.expect(behind)
	}
	n.Kids = append(n.Kids, r.stmt())
	return n
}

// loopOf reads on, behind the parenthesis of a for that is at that place.
func (r *reader) loopOf(at int) api.Node {
	n := api.Node{Kind: api.NodeForOf, At: at, Op: r.next().Text, Name: r.name()}
	if !r.isName() || r.now().Text != "of" {
		r.wrong(api.ErrParseForm)
	}
	r.next()
	over := r.assign()
	r.expect(")")
	n.Kids = []api.Node{over, r.stmt()}
	return n
}

func (r *reader) try() api.Node {
	n := api.Node{Kind: api.NodeTry, At: r.next().At}
	n.Kids = []api.Node{r.block(), {}, {}}
	if !r.is("catch", "finally") {
		r.wrong(api.ErrParseForm)
	}
	if r.take("catch") {
		r.expect("(")
		n.Name = r.name()
		r.expect(")")
		n.Kids[1] = r.block()
	}
	if r.take("finally") {
		n.Kids[2] = r.block()
	}
	return n
}
