package parse

import "brazier/api"

func (r *reader) unary() api.Node {
	defer r.in(r.beginsUnary())()
	if r.beginsSigned() {
		return r.signed()
	}
	n := r.member()
	if r.is("++", "--") {
		canBeGiven(n)
		n = of(api.NodeUpdate, r.next().Text, n)
		n.Name = "post"
	}
	return n
}

// signed reads a sign, and what is behind it.
func (r *reader) signed() api.Node {
	t := r.next()
	kid := r.unary()
	n := api.Node{Kind: api.NodeUnary, At: t.At, Op: t.Text, Kids: []api.Node{kid}}
	switch t.Text {
	case "++", "--":
		canBeGiven(kid)
		n.Kind, n.Name = api.NodeUpdate, "pre"
	case "delete":
		if kid.Kind == api.NodeName {
			panic(fault{t.At, api.ErrParseDelete})
		}
	}
	return n
}

func (r *reader) member() api.Node {
	n := r.callee()
	for {
		switch {
		case r.is(".", "["):
			n = r.part(n)
		case r.is("("):
			n = of(api.NodeCall, "", append([]api.Node{n}, r.args()...)...)
		default:
			return n
		}
	}
}

// callee reads a New or a Primary.
func (r *reader) callee() api.Node {
	if r.is("new") {
		return r.made()
	}
	return r.primary()
}

// made reads a New. Its arguments stand behind the word as well as its callee does, so they too are one further in.
func (r *reader) made() api.Node {
	at := r.next().At
	defer r.in(r.beginsCallee())()
	callee := r.callee()
	for r.is(".", "[") {
		callee = r.part(callee)
	}
	kids := []api.Node{callee}
	if r.is("(") {
		kids = append(kids, r.args()...)
	}
	return api.Node{Kind: api.NodeNew, At: at, Kids: kids}
}

// part reads which part of n is meant: behind a point, or in brackets.
func (r *reader) part(n api.Node) api.Node {
	if r.take(".") {
		return of(api.NodeMember, ".", n, r.nameOrWord())
	}
	return of(api.NodeMember, "[", n, r.inBrackets())
}

func (r *reader) args() []api.Node { return r.list("(", ")", r.assign) }

func (r *reader) nameOrWord() api.Node {
	if !r.isName() && r.now().Kind != api.TokenWord {
		r.wrong(api.ErrParseForm)
	}
	t := r.next()
	return api.Node{Kind: api.NodeString, At: t.At, Name: t.Text}
}

func (r *reader) inBrackets() api.Node {
	r.expect("[")
	n := r.assign()
	r.expect("]")
	return n
}
