package engine_test

import (
	"slices"
	"strings"

	"brazier/api"
)

// cell is a variable; block is where names are known.
type cell struct {
	value   value
	reached bool
}

type block struct {
	up    *block
	names map[string]*cell
}

func (b *block) inner() *block { return &block{b, map[string]*cell{}} }

func (b *block) find(name string) *cell {
	for b.names[name] == nil {
		b = b.up
	}
	return b.names[name]
}

func (b *block) declare(name string, v value) { b.names[name] = &cell{v, true} }

// call is one that is under way, of a function or of the program itself.
type call struct {
	*world
	this  value
	yield func(value) value
}

// how is how a statement ends: just so, or by "break", "continue", "return".
type how struct {
	kind, label string
	value       value
}

// run does a program's tree.
func (w *world) run(tree api.Node) {
	top := &block{names: map[string]*cell{}}
	for name, v := range w.builtins {
		top.declare(name, v)
	}
	c := &call{world: w}
	c.all(tree.Kids, top.inner())
}

// all does a block's statements; its names are known in b.
func (c *call) all(l []api.Node, b *block) how {
	for _, n := range l {
		switch n.Kind {
		case api.NodeLet, api.NodeConst:
			b.names[n.Name] = &cell{}
		case api.NodeDeclare:
			b.declare(n.Name, nil)
		}
	}
	for _, n := range l {
		if n.Kind == api.NodeDeclare {
			b.find(n.Name).value = c.function(n, b)
		}
	}
	for _, n := range l {
		if h := c.do(n, b); h.kind != "" {
			return h
		}
	}
	return how{}
}

func (c *call) do(n api.Node, b *block, labels ...string) how {
	c.step()
	switch n.Kind {
	case api.NodeLet, api.NodeConst:
		v := c.perhaps(n.Kids[0], b)
		b.declareReached(n.Name, v)
	case api.NodeReturn:
		return how{"return", "", c.perhaps(n.Kids[0], b)}
	case api.NodeIf:
		if isTruthy(c.eval(n.Kids[0], b)) {
			return c.do(n.Kids[1], b)
		}
		if n.Kids[2].Kind != 0 {
			return c.do(n.Kids[2], b)
		}
	case api.NodeWhile:
		return c.turn(n.Kids[0], api.Node{}, n.Kids[1], b, labels)
	case api.NodeFor:
		c.perhaps(n.Kids[0], b)
		return c.turn(n.Kids[1], n.Kids[2], n.Kids[3], b, labels)
	case api.NodeForOf:
		return c.each(n, b, labels)
	case api.NodeBreak:
		return how{kind: "break", label: n.Name}
	case api.NodeContinue:
		return how{kind: "continue", label: n.Name}
	case api.NodeLabel:
		if h := c.do(n.Kids[0], b, append(labels, n.Name)...); h.kind != "break" || h.label != n.Name {
			return h
		}
	case api.NodeThrow:
		panic(raised{c.eval(n.Kids[0], b)})
	case api.NodeTry:
		return c.try(n, b)
	case api.NodeBlock:
		return c.all(n.Kids, b.inner())
	case api.NodeExpr:
		c.eval(n.Kids[0], b)
	}
	return how{}
}

// declareReached: closures that were made ahead know the cell already.
func (b *block) declareReached(name string, v value) {
	cell := b.names[name]
	cell.value, cell.reached = v, true
}

// leaves tells whether a loop is left by what its body came to, and how that is then.
func leaves(h how, labels []string) (how, bool) {
	switch {
	case h.kind == "break" && h.label == "":
		return how{}, true
	case h.kind == "continue" && (h.label == "" || slices.Contains(labels, h.label)):
		return how{}, false
	}
	return h, h.kind != ""
}

func (c *call) turn(test, behind, body api.Node, b *block, labels []string) how {
	for test.Kind == 0 || isTruthy(c.eval(test, b)) {
		c.step()
		if h, leave := leaves(c.do(body, b), labels); leave {
			return h
		}
		c.perhaps(behind, b)
	}
	return how{}
}

func (c *call) iterable(v value) value {
	c.typeError(isPrimitive(v), "iterator")
	return v
}

func (c *call) each(n api.Node, b *block, labels []string) how {
	of := c.eval(n.Kids[0], b)
	iterator := c.iterable(c.call(c.read(of, "$$iterator"), of))
	next := c.read(iterator, "next")
	for {
		result := c.iterable(c.call(next, iterator))
		if isTruthy(c.read(result, "done")) {
			return how{}
		}
		round := b.inner()
		round.declare(n.Name, c.read(result, "value"))
		if h, leave := leaves(c.do(n.Kids[1], round), labels); leave {
			return h
		}
	}
}

// caught does something, and tells what was thrown in it. A return that comes out of a yield is one of it all.
func caught(do func() how) (h how, threw *raised) {
	defer func() {
		switch x := recover().(type) {
		case nil:
		case raised:
			threw = &x
		case returned:
			h = how{"return", "", x.value}
		default:
			panic(x)
		}
	}()
	return do(), nil
}

func (c *call) try(n api.Node, b *block) how {
	h, threw := caught(func() how { return c.all(n.Kids[0].Kids, b.inner()) })
	if threw != nil && n.Kids[1].Kind != 0 {
		round := b.inner()
		round.declare(n.Name, threw.value)
		h, threw = caught(func() how { return c.all(n.Kids[1].Kids, round) })
	}
	if n.Kids[2].Kind != 0 {
		if last := c.all(n.Kids[2].Kids, b.inner()); last.kind != "" {
			return last
		}
	}
	if threw != nil {
		panic(*threw)
	}
	return h
}

// function is a new one of a node.
func (c *call) function(n api.Node, b *block) value {
	c.step()
	w := c.world
	f := w.make(api.KindFunction, w.protos["Function"])
	last := len(n.Kids) - 1
	body := func(c *call, args []value) value {
		inner := b
		if n.Kind == api.NodeFunction && n.Name != "" {
			inner = inner.inner()
			inner.declare(n.Name, f)
		}
		inner = inner.inner()
		for i, p := range n.Kids[:last] {
			inner.declare(p.Name, at(args, i))
		}
		h, threw := caught(func() how { return c.all(n.Kids[last].Kids, inner) })
		if threw != nil {
			panic(*threw)
		}
		return h.value
	}
	if n.Op == "*" {
		f.star = true
		f.does = func(this value, args []value) value {
			return w.within(func() value {
				return w.generator(func(yield func(value) value) value {
					return body(&call{w, this, yield}, args)
				})
			})
		}
		return f
	}
	f.does = func(this value, args []value) value {
		return w.within(func() value { return body(&call{world: w, this: this}, args) })
	}
	proto := w.object()
	proto.lay("constructor", data(f, true, false, true))
	f.lay("prototype", data(proto, true, false, false))
	return f
}

func (c *call) perhaps(n api.Node, b *block) value {
	if n.Kind == 0 {
		return nil
	}
	return c.eval(n, b)
}

func (c *call) evals(l []api.Node, b *block) []value {
	var values []value
	for _, n := range l {
		values = append(values, c.eval(n, b))
	}
	return values
}

// variable is one that must be reached.
func (c *call) variable(n api.Node, b *block) *cell {
	v := b.find(n.Name)
	if !v.reached {
		c.raise("ReferenceError", n.Name)
	}
	return v
}

// key is what an expression is as a key.
func (c *call) key(n api.Node, b *block) string {
	v := c.eval(n, b)
	return c.said(toText(c.primitive(v, true)))
}

func (c *call) eval(n api.Node, b *block) value {
	c.step()
	switch n.Kind {
	case api.NodeNumber:
		return numberOf(n.Num)
	case api.NodeString:
		return n.Name
	case api.NodeName:
		return c.variable(n, b).value
	case api.NodeTrue:
		return true
	case api.NodeFalse:
		return false
	case api.NodeNull:
		return null{}
	case api.NodeThis:
		return c.this
	case api.NodeArray:
		a := c.array()
		for _, k := range n.Kids {
			c.push(a, c.eval(k, b))
		}
		return a
	case api.NodeObject:
		return c.literal(n, b)
	case api.NodeFunction:
		return c.function(n, b)
	case api.NodeMember:
		of := c.eval(n.Kids[0], b)
		return c.read(of, c.key(n.Kids[1], b))
	case api.NodeCall:
		return c.called(n, b)
	case api.NodeNew:
		f := c.eval(n.Kids[0], b)
		return c.construct(f, c.evals(n.Kids[1:], b))
	case api.NodeYield:
		return c.yield(c.perhaps(n.Kids[0], b))
	case api.NodeCond:
		if isTruthy(c.eval(n.Kids[0], b)) {
			return c.eval(n.Kids[1], b)
		}
		return c.eval(n.Kids[2], b)
	case api.NodeLogic:
		if v := c.eval(n.Kids[0], b); isTruthy(v) == (n.Op == "||") {
			return v
		}
		return c.eval(n.Kids[1], b)
	}
	return c.sign(n, b)
}

func (c *call) sign(n api.Node, b *block) value {
	switch n.Kind {
	case api.NodeUnary:
		return c.unary(n, b)
	case api.NodeBinary:
		x := c.eval(n.Kids[0], b)
		return c.binary(n.Op, x, c.eval(n.Kids[1], b))
	case api.NodeAssign:
		read, write := c.place(n.Kids[0], b)
		var v value
		if n.Op == "=" {
			v = c.eval(n.Kids[1], b)
		} else {
			old := read()
			v = c.binary(strings.TrimSuffix(n.Op, "="), old, c.eval(n.Kids[1], b))
		}
		write(v)
		return v
	case api.NodeUpdate:
		read, write := c.place(n.Kids[0], b)
		old := c.number(read())
		now := old + 1
		if n.Op == "--" {
			now = old - 1
		}
		write(now)
		if n.Name == "post" {
			return old
		}
		return now
	}
	return nil
}

// place is what is given something: how it is read, and written.
func (c *call) place(n api.Node, b *block) (func() value, func(value)) {
	if n.Kind == api.NodeName {
		return func() value { return c.variable(n, b).value }, func(v value) { c.variable(n, b).value = v }
	}
	of := c.eval(n.Kids[0], b)
	key := c.key(n.Kids[1], b)
	return func() value { return c.read(of, key) }, func(v value) { c.write(of, key, v) }
}

func (c *call) literal(n api.Node, b *block) value {
	o := c.object()
	for _, p := range n.Kids {
		key := c.key(p.Kids[0], b)
		v := c.eval(p.Kids[1], b)
		w := wished{"enumerable": true, "configurable": true}
		if p.Op == "init" {
			w["value"], w["writable"] = v, true
		} else {
			w[p.Op] = v
		}
		o.define(key, w)
	}
	return o
}

func (c *call) called(n api.Node, b *block) value {
	var f, this value
	if m := n.Kids[0]; m.Kind == api.NodeMember {
		this = c.eval(m.Kids[0], b)
		f = c.read(this, c.key(m.Kids[1], b))
	} else {
		f = c.eval(m, b)
	}
	return c.call(f, this, c.evals(n.Kids[1:], b)...)
}

func (c *call) unary(n api.Node, b *block) value {
	if m := n.Kids[0]; n.Op == "delete" && m.Kind == api.NodeMember {
		of := c.eval(m.Kids[0], b)
		c.remove(of, c.key(m.Kids[1], b))
		return true
	}
	v := c.eval(n.Kids[0], b)
	switch n.Op {
	case "delete":
		return true
	case "void":
		return nil
	case "!":
		return !isTruthy(v)
	case "typeof":
		return typeName(v)
	case "-":
		return -c.number(v)
	case "~":
		return float64(^toInt32(c.number(v)))
	}
	return c.number(v)
}

func typeName(v value) string {
	switch x := v.(type) {
	case nil:
		return "undefined"
	case bool:
		return "boolean"
	case float64:
		return "number"
	case string:
		return "string"
	case *thing:
		if x.does != nil {
			return "function"
		}
	}
	return "object"
}

func (c *call) binary(sign string, x, y value) value {
	switch sign {
	case "===", "!==":
		return (x == y) == (sign == "===")
	case "==", "!=":
		x = c.primitiveIf(x, y)
		y = c.primitiveIf(y, x)
		return isEqual(x, y) == (sign == "==")
	case "in":
		return c.has(c.said(toText(c.primitive(x, true))), y)
	case "instanceof":
		return c.isOf(x, y)
	}
	x = c.primitive(x, false)
	y = c.primitive(y, false)
	_, text := x.(string)
	_, text2 := y.(string)
	switch {
	case sign[0] == '<' && len(sign) < 3 && sign != "<<", sign == ">", sign == ">=":
		return compare(sign, x, y)
	case sign == "+" && (text || text2):
		return c.said(toText(x) + toText(y))
	}
	return reckon(sign, toNumber(x), toNumber(y))
}

// primitiveIf makes a value a primitive, if the other one is one that is neither undefined nor null.
func (c *call) primitiveIf(v, other value) value {
	if isPrimitive(other) && !lacking(other) {
		return c.primitive(v, false)
	}
	return v
}
