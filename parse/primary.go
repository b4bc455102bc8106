package parse

import "brazier/api"

// primary is called where one begins: no other token stands there.
func (r *reader) primary() api.Node {
	n := api.Node{At: r.now().At}
	switch r.now().Kind {
	case api.TokenName:
		n.Kind, n.Name = api.NodeName, r.next().Text
		return n
	case api.TokenNumber:
		n.Kind, n.Num = api.NodeNumber, r.next().Num
		return n
	case api.TokenString:
		n.Kind, n.Name = api.NodeString, r.next().Text
		return n
	}
	switch fixed(r.now()) {
	case "(":
		return r.inParens()
	case "[":
		n.Kind, n.Kids = api.NodeArray, r.list("[", "]", r.assign)
	case "{":
		n.Kind, n.Kids = api.NodeObject, r.list("{", "}", r.prop)
	case "function":
		return r.function(api.NodeFunction)
	default:
		n.Kind = kindOfWord(r.next().Text)
	}
	return n
}

func kindOfWord(word string) int {
	switch word {
	case "true":
		return api.NodeTrue
	case "false":
		return api.NodeFalse
	case "null":
		return api.NodeNull
	case "undefined":
		return api.NodeUndefined
	}
	return api.NodeThis
}

func (r *reader) prop() api.Node {
	n := api.Node{Kind: api.NodeProp, At: r.now().At, Op: "init"}
	if r.isAccessor() {
		n.Op = r.next().Text
		n.Kids = []api.Node{r.key(), r.accessor()}
		return n
	}
	key := r.key()
	r.expect(":")
	n.Kids = []api.Node{key, r.assign()}
	return n
}

// isAccessor tells get and set as such from those that are keys.
func (r *reader) isAccessor() bool {
	t := r.now()
	return r.isName() && (t.Text == "get" || t.Text == "set") && !r.aheadOf(":")
}

func (r *reader) accessor() api.Node {
	return api.Node{Kind: api.NodeFunction, At: r.now().At, Kids: r.paramsAndBody(false)}
}

func (r *reader) key() api.Node {
	switch {
	case r.is("["):
		return r.inBrackets()
	case r.now().Kind == api.TokenNumber, r.now().Kind == api.TokenString:
		return r.primary()
	}
	return r.nameOrWord()
}
