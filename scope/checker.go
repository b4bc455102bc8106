package scope

import "brazier/api"

// room is how many nodes may still come.
type room int

// holds tells whether a tree has no more nodes than there is room for, and no more than those levels.
func (left *room) holds(n api.Node, levels int) bool {
	if *left == 0 || levels == 0 {
		return false
	}
	*left--
	for _, kid := range n.Kids {
		if !left.holds(kid, levels-1) {
			return false
		}
	}
	return true
}

// places are those at which something stands.
type places map[int]struct{}

// take tells whether the place was free.
func (p places) take(at int) bool {
	_, taken := p[at]
	p[at] = struct{}{}
	return !taken
}

// checker goes through a tree, and asks whether it is built as the grammar says.
type checker struct {
	star           bool // the innermost function has a *
	used, declared places
}

// right tells whether a node, of a kind that may stand there, is right with all below it.
func (c *checker) right(n api.Node) bool {
	parts := partsOf(n.Kind, len(n.Kids))
	if len(parts) != len(n.Kids) || !rightOp(n) || !c.rightHere(n) {
		return false
	}
	around := c.star
	if isFunction(n) {
		c.star = n.Op == "*"
	}
	for i, kid := range n.Kids {
		if !c.rightPart(parts[i], kid) {
			return false
		}
	}
	c.star = around
	return true
}

// rightHere asks what hangs on more than a node's kind, Op and kids.
func (c *checker) rightHere(n api.Node) bool {
	switch n.Kind {
	case api.NodeName:
		return c.used.take(n.At)
	case api.NodeUpdate:
		return n.Name == "pre" || n.Name == "post"
	case api.NodeYield:
		return c.star
	case api.NodeTry:
		if n.Kids[1].Kind == 0 && n.Kids[2].Kind == 0 {
			return false
		}
	}
	return !declares(n) || c.declared.take(n.At)
}

func (c *checker) rightPart(part byte, n api.Node) bool {
	switch {
	case n.Kind == 0:
		return mayLack(part) && len(n.Kids) == 0
	case !isPart(part, n.Kind):
		return false
	case part == 'n':
		return len(n.Kids) == 0 && c.declared.take(n.At)
	}
	return c.right(n)
}

func isFunction(n api.Node) bool { return n.Kind == api.NodeFunction || n.Kind == api.NodeDeclare }

// declares tells of each node but a parameter whether a name is declared by it, at its place.
func declares(n api.Node) bool {
	switch n.Kind {
	case api.NodeLet, api.NodeConst, api.NodeDeclare, api.NodeForOf:
		return true
	case api.NodeTry:
		return n.Kids[1].Kind != 0
	}
	return hasSelf(n)
}

// hasSelf tells whether a function's name is a variable of its own.
func hasSelf(n api.Node) bool { return n.Kind == api.NodeFunction && n.Name != "" }
