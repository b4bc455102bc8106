package parse

import "brazier/api"

func (r *reader) program() api.Node {
	n := api.Node{Kind: api.NodeProgram, At: r.now().At}
	for r.now().Kind != api.TokenEnd {
		n.Kids = append(n.Kids, r.item())
	}
	return n
}

func (r *reader) block() api.Node {
	n := api.Node{Kind: api.NodeBlock, At: r.now().At}
	r.expect("{")
	for !r.take("}") {
		n.Kids = append(n.Kids, r.item())
	}
	return n
}

func (r *reader) item() api.Node {
	switch fixed(r.now()) {
	case "let":
		return r.let()
	case "const":
		return r.constant()
	case "function":
		return r.function(api.NodeDeclare)
	}
	return r.stmt()
}

func (r *reader) let() api.Node {
	n := api.Node{Kind: api.NodeLet, At: r.next().At, Name: r.name()}
	value := api.Node{}
	if r.take("=") {
		value = r.assign()
	}
	r.expect(";")
	n.Kids = []api.Node{value}
	return n
}

func (r *reader) constant() api.Node {
	n := api.Node{Kind: api.NodeConst, At: r.next().At, Name: r.name()}
	r.expect("=")
	n.Kids = []api.Node{r.assign()}
	r.expect(";")
	return n
}

// function reads one that is declared, which has a name, or one that is a value, which may have one.
func (r *reader) function(kind int) api.Node {
	n := api.Node{Kind: kind, At: r.next().At}
	star := r.take("*")
	if star {
		n.Op = "*"
	}
	if kind == api.NodeDeclare || r.isName() {
		n.Name = r.name()
	}
	n.Kids = r.paramsAndBody(star)
	return n
}

func (r *reader) paramsAndBody(star bool) []api.Node {
	return append(r.list("(", ")", r.param), r.body(star))
}

func (r *reader) param() api.Node {
	return api.Node{Kind: api.NodeName, At: r.now().At, Name: r.name()}
}

func (r *reader) body(star bool) api.Node {
	around := r.star
	r.star = star
	defer func() { r.star = around }()
	return r.block()
}
