package scope_test

import (
	"slices"

	"brazier/api"
)

// maker makes trees by chance, with places that are not in order. Names that begin with v (and the empty one) are never a const's or a function's own, so that something can be given to them; a program declares all its names, unless it lacks some.
type maker struct {
	chance
	count int  // of nodes
	amiss bool // things may be done amiss
	lacks bool // some names are declared nowhere
	fn    int  // functions around
	star  bool
	loops int
	jumps []string // labels around
	goOn  []string // those of loops
}

var changing, constant = []string{"v", "v1", "v2", ""}, []string{"k", "k1", "print", "NaN"}

var labelNames = []string{"v", "k", "p", "q"}

func pick[T any](m *maker, l []T) T { return l[m.below(len(l))] }

// rarely is never true, unless things may be done amiss.
func (m *maker) rarely() bool { return m.below(60) == 0 && m.amiss }

func (m *maker) node(kind int, kids ...api.Node) api.Node {
	m.count++
	return api.Node{Kind: kind, At: m.count*7919%100003 - 500, Kids: kids}
}

func (m *maker) named(kind int, name string, kids ...api.Node) api.Node {
	n := m.node(kind, kids...)
	n.Name = name
	return n
}

func (m *maker) withOp(kind int, op string, kids ...api.Node) api.Node {
	n := m.node(kind, kids...)
	n.Op = op
	return n
}

// program is one of about that size.
func (m *maker) program(size int) api.Node {
	return m.node(api.NodeProgram, m.items(size, nil, !m.lacks)...)
}

// items are a block's, which has those names already; if all, each name is declared.
func (m *maker) items(size int, has []string, all bool) []api.Node {
	var l []api.Node
	for _, name := range slices.Concat(changing, constant) {
		if (all || m.below(8) == 0) && !slices.Contains(has, name) || m.rarely() {
			l = append(l, m.declare(name, size/8))
		}
	}
	for size > 0 {
		part := 1 + m.below(size)
		l = append(l, m.stmt(part-1))
		size -= part
	}
	for i := range l {
		j := m.below(i + 1)
		l[i], l[j] = l[j], l[i]
	}
	return l
}

func (m *maker) declare(name string, size int) api.Node {
	kind := pick(m, []int{api.NodeLet, api.NodeConst, api.NodeDeclare})
	if kind == api.NodeConst && slices.Contains(changing, name) {
		kind = api.NodeLet
	}
	switch {
	case kind == api.NodeDeclare:
		return m.function(kind, name, size)
	case kind == api.NodeLet && m.below(2) == 0:
		return m.named(kind, name, api.Node{})
	}
	return m.named(kind, name, m.expr(size))
}

func (m *maker) function(kind int, name string, size int) api.Node {
	n := m.named(kind, name)
	if m.below(3) == 0 {
		n.Op = "*"
	}
	var has []string
	for range m.below(4) {
		param := pick(m, append(changing, constant...))
		if !slices.Contains(has, param) || m.rarely() {
			n.Kids = append(n.Kids, m.named(api.NodeName, param))
			has = append(has, param)
		}
	}
	inner := *m
	inner.fn, inner.star, inner.loops, inner.jumps, inner.goOn = m.fn+1, n.Op == "*", 0, nil, nil
	n.Kids = append(n.Kids, inner.node(api.NodeBlock, inner.items(size-1, has, false)...))
	m.chance, m.count = inner.chance, inner.count
	return n
}

func (m *maker) stmt(size int) api.Node {
	switch m.below(16) {
	case 0, 1:
		return m.block(size, nil)
	case 2:
		return m.node(api.NodeEmpty)
	case 3:
		if m.fn > 0 || m.amiss && m.below(8) == 0 {
			return m.node(api.NodeReturn, m.maybe(size-1))
		}
	case 4, 5:
		if m.below(2) == 0 {
			return m.node(api.NodeIf, m.expr(size/4), m.stmt(size/2), api.Node{})
		}
		return m.node(api.NodeIf, m.expr(size/4), m.stmt(size/3), m.stmt(size/3))
	case 6, 7:
		return m.loop(size, nil)
	case 8, 9:
		if n := m.jump(); n.Kind != 0 {
			return n
		}
	case 10, 11:
		return m.label(size, nil)
	case 12:
		return m.node(api.NodeThrow, m.expr(size-1))
	case 13:
		return m.try(size)
	}
	return m.node(api.NodeExpr, m.expr(size-1))
}

func (m *maker) block(size int, has []string) api.Node {
	return m.node(api.NodeBlock, m.items(size-1, has, false)...)
}

// maybe is an expression, or nothing.
func (m *maker) maybe(size int) api.Node {
	if m.below(3) == 0 {
		return api.Node{}
	}
	return m.expr(size)
}

// loop has those labels.
func (m *maker) loop(size int, labels []string) api.Node {
	loops, goOn := m.loops, m.goOn
	defer func() { m.loops, m.goOn = loops, goOn }()
	over := m.expr(size / 4)
	m.loops, m.goOn = loops+1, slices.Concat(goOn, labels)
	switch m.below(3) {
	case 0:
		return m.node(api.NodeWhile, over, m.stmt(size/2))
	case 1:
		return m.node(api.NodeFor, m.maybe(size/8), m.maybe(size/8), over, m.stmt(size/2))
	}
	n := m.node(api.NodeForOf, over, m.stmt(size/2))
	if n.Op, n.Name = "let", pick(m, changing); m.below(2) == 0 {
		n.Op, n.Name = m.of("let", "const"), pick(m, constant)
	}
	return n
}

func (m *maker) label(size int, labels []string) api.Node {
	name := pick(m, labelNames)
	if slices.Contains(m.jumps, name) && !m.rarely() {
		return m.block(size, nil)
	}
	jumps := m.jumps
	defer func() { m.jumps = jumps }()
	m.jumps = append(slices.Clone(jumps), name)
	labels = append(labels, name)
	switch m.below(4) {
	case 0, 1:
		return m.named(api.NodeLabel, name, m.loop(size-1, labels))
	case 2:
		return m.named(api.NodeLabel, name, m.label(size-1, labels))
	}
	return m.named(api.NodeLabel, name, m.stmt(size-1))
}

// jump is one, or nothing, if there is nowhere to go.
func (m *maker) jump() api.Node {
	kind := pick(m, []int{api.NodeBreak, api.NodeContinue})
	names := m.jumps
	if kind == api.NodeContinue {
		names = m.goOn
	}
	switch {
	case m.rarely():
		return m.named(kind, pick(m, append(labelNames, "")))
	case m.loops > 0 && m.below(2) == 0:
		return m.node(kind)
	case len(names) > 0:
		return m.named(kind, pick(m, names))
	}
	return api.Node{}
}

func (m *maker) try(size int) api.Node {
	n := m.named(api.NodeTry, pick(m, append(changing, constant...)), m.block(size/3, nil), api.Node{}, api.Node{})
	which := 1 + m.below(3)
	if which&1 > 0 {
		n.Kids[1] = m.block(size/3, []string{n.Name})
	}
	if which&2 > 0 {
		n.Kids[2] = m.block(size/3, nil)
	}
	return n
}

func (m *maker) use() api.Node {
	switch {
	case m.rarely():
		return m.named(api.NodeName, "lacking")
	case m.below(6) == 0:
		return m.named(api.NodeName, pick(m, builtins))
	}
	return m.named(api.NodeName, pick(m, append(changing, constant...)))
}

// given is what something can be given to.
func (m *maker) given(size int) api.Node {
	switch {
	case m.rarely():
		return m.use()
	case m.below(4) == 0:
		return m.withOp(api.NodeMember, m.of(".", "["), m.expr(size/2), m.expr(size/2))
	}
	return m.named(api.NodeName, pick(m, changing))
}

func (m *maker) expr(size int) api.Node {
	if size <= 0 {
		if m.below(3) > 0 {
			return m.use()
		}
		return m.named(pick(m, []int{api.NodeNumber, api.NodeString, api.NodeTrue, api.NodeFalse, api.NodeNull, api.NodeUndefined, api.NodeThis}), "v")
	}
	kind := api.NodeArray + m.below(api.NodeYield-api.NodeArray+1)
	switch kind {
	case api.NodeArray, api.NodeCall, api.NodeNew:
		n := m.node(kind, m.expr(size/2))
		for range m.below(3) {
			n.Kids = append(n.Kids, m.expr(size/4))
		}
		return n
	case api.NodeObject, api.NodeProp:
		n := m.node(api.NodeObject)
		for range m.below(3) {
			n.Kids = append(n.Kids, m.withOp(api.NodeProp, m.of(ops[api.NodeProp]...), m.expr(size/6), m.expr(size/2)))
		}
		return n
	case api.NodeFunction:
		return m.function(kind, m.of("", pick(m, constant)), size)
	case api.NodeUnary:
		return m.withOp(kind, m.of(ops[kind]...), m.expr(size-1))
	case api.NodeUpdate:
		n := m.withOp(kind, m.of(ops[kind]...), m.given(size-1))
		n.Name = m.of("pre", "post")
		return n
	case api.NodeMember, api.NodeBinary, api.NodeLogic:
		return m.withOp(kind, m.of(append(ops[kind], firstOp(kind))...), m.expr(size/2), m.expr(size/2))
	case api.NodeCond:
		return m.node(kind, m.expr(size/3), m.expr(size/3), m.expr(size/3))
	case api.NodeYield:
		if m.star {
			return m.node(kind, m.maybe(size-1))
		}
	}
	return m.withOp(api.NodeAssign, m.of(ops[api.NodeAssign]...), m.given(size/2), m.expr(size/2))
}

// made calls f with each tree that a maker makes of sizes below that one.
func made(c chance, times, size int, amiss bool, f func(m *maker, n api.Node)) {
	m := maker{chance: c}
	for i := range times {
		m = maker{chance: m.chance, amiss: amiss, lacks: amiss && i%8 == 0}
		n := m.program(m.below(size))
		f(&m, n)
	}
}
