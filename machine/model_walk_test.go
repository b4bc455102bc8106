package machine_test

import (
	"iter"
	"slices"
	"strings"

	"brazier/api"
	"brazier/parse"
	"brazier/scope"
)

// place is a variable.
type variable struct {
	value   value
	reached bool
}

// names is a block's.
type names struct {
	around *names
	here   map[string]*variable
}

func (n *names) within() *names { return &names{n, map[string]*variable{}} }

func (n *names) find(name string) *variable {
	for n.here[name] == nil {
		n = n.around
	}
	return n.here[name]
}

// calling is a call that is under way; yield is its generator's, if it is one's.
type calling struct {
	*model
	this  value
	yield func(v value) (how int, sent value)
}

// outcome is how a statement ends: by NodeBreak, NodeContinue, NodeReturn; or (0) it goes on.
type outcome struct {
	kind  int
	label string
	value value
}

// returning is a return out of an expression.
type returning struct{ value value }

// unneeded is thrown in a generator that nobody needs any more.
type unneeded struct{}

// walk does a program by its tree, with so many steps at most.
func walk(n api.Node, fuel int) *model {
	w := &model{fuel: plenty, depth: 1}
	c := &calling{model: w}
	top := &names{here: map[string]*variable{}}
	w.build(func() {
		for i, name := range scope.Builtins() {
			top.here[name] = &variable{w.builtins[i], true}
		}
		tree, _, _ := parse.Parse(preludeText())
		c.items(tree.Kids, top.within())
	})
	for i, name := range scope.Builtins() {
		top.here[name] = &variable{w.builtins[i], true}
	}
	w.fuel, w.steps = fuel, 0
	w.end = w.ends(func() { c.items(n.Kids, top.within()) })
	for _, stop := range w.idle {
		stop()
	}
	return w
}

func (w *model) ends(run func()) (how string) {
	defer func() {
		switch x := recover().(type) {
		case nil:
		case thrown:
			how = "thrown " + shown(x.value)
		case stops:
			how = string(x)
		default:
			panic(x)
		}
	}()
	run()
	return "done"
}

func (c *calling) block(n api.Node, in *names) outcome { return c.items(n.Kids, in.within()) }

// items does a block's; its names are here.
func (c *calling) items(l []api.Node, here *names) outcome {
	for _, n := range l {
		if n.Kind == api.NodeLet || n.Kind == api.NodeConst || n.Kind == api.NodeDeclare {
			here.here[n.Name] = &variable{}
		}
	}
	for _, n := range l {
		if n.Kind == api.NodeDeclare {
			c.burn()
			*here.here[n.Name] = variable{c.closure(n, here), true}
		}
	}
	for _, n := range l {
		if o := c.stmt(n, here, nil); o.kind != 0 {
			return o
		}
	}
	return outcome{}
}

func (c *calling) stmt(n api.Node, in *names, labels []string) outcome {
	c.burn()
	switch n.Kind {
	case api.NodeLet, api.NodeConst:
		v := c.maybe(n.Kids[0], in)
		*in.here[n.Name] = variable{v, true}
	case api.NodeReturn:
		return outcome{kind: n.Kind, value: c.maybe(n.Kids[0], in)}
	case api.NodeIf:
		if truthy(c.expr(n.Kids[0], in)) {
			return c.stmt(n.Kids[1], in, nil)
		}
		if n.Kids[2].Kind != 0 {
			return c.stmt(n.Kids[2], in, nil)
		}
	case api.NodeWhile:
		return c.rounds(n.Kids[0], api.Node{}, n.Kids[1], in, labels)
	case api.NodeFor:
		c.maybe(n.Kids[0], in)
		return c.rounds(n.Kids[1], n.Kids[2], n.Kids[3], in, labels)
	case api.NodeForOf:
		return c.loopOf(n, in, labels)
	case api.NodeBreak, api.NodeContinue:
		return outcome{kind: n.Kind, label: n.Name}
	case api.NodeLabel:
		o := c.stmt(n.Kids[0], in, append(labels, n.Name))
		if o.kind == api.NodeBreak && o.label == n.Name {
			return outcome{}
		}
		return o
	case api.NodeThrow:
		panic(thrown{c.expr(n.Kids[0], in)})
	case api.NodeTry:
		return c.try(n, in)
	case api.NodeBlock:
		return c.block(n, in)
	case api.NodeExpr:
		c.expr(n.Kids[0], in)
	}
	return outcome{}
}

// left tells whether a loop with those labels is left by how its body ended, and with what.
func left(o outcome, labels []string) (bool, outcome) {
	if o.kind == api.NodeBreak && o.label == "" {
		return true, outcome{}
	}
	if o.kind == api.NodeContinue && (o.label == "" || slices.Contains(labels, o.label)) {
		return false, outcome{}
	}
	return o.kind != 0, o
}

func (c *calling) rounds(test, after, body api.Node, in *names, labels []string) outcome {
	for test.Kind == 0 || truthy(c.expr(test, in)) {
		if out, o := left(c.stmt(body, in, nil), labels); out {
			return o
		}
		c.maybe(after, in)
	}
	return outcome{}
}

func (c *calling) iterable(v value) value {
	c.burn()
	c.must(isThing(v), "iterator")
	return v
}

func (c *calling) loopOf(n api.Node, in *names, labels []string) outcome {
	of := c.expr(n.Kids[0], in)
	iterator := c.iterable(c.call(c.get(of, "$$iterator"), of))
	next := c.get(iterator, "next")
	for {
		told := c.iterable(c.call(next, iterator))
		if truthy(c.get(told, "done")) {
			return outcome{}
		}
		here := in.within()
		here.here[n.Name] = &variable{c.get(told, "value"), true}
		if out, o := left(c.stmt(n.Kids[1], here, nil), labels); out {
			return o
		}
	}
}

// guard tells how something ends, or what it throws.
func guard(do func() outcome) (o outcome, t *thrown) {
	defer func() {
		switch x := recover().(type) {
		case nil:
		case thrown:
			t = &x
		case returning:
			o = outcome{kind: api.NodeReturn, value: x.value}
		default:
			panic(x)
		}
	}()
	return do(), nil
}

func (c *calling) try(n api.Node, in *names) outcome {
	o, t := guard(func() outcome { return c.block(n.Kids[0], in) })
	if t != nil && n.Kids[1].Kind != 0 {
		here := in.within()
		here.here[n.Name] = &variable{t.value, true}
		o, t = guard(func() outcome { return c.items(n.Kids[1].Kids, here) })
	}
	if n.Kids[2].Kind != 0 {
		if last := c.block(n.Kids[2], in); last.kind != 0 {
			return last
		}
	}
	if t != nil {
		panic(*t)
	}
	return o
}

// closure is a new function of a node.
func (c *calling) closure(n api.Node, in *names) *object {
	w := c.model
	f := w.object(api.KindFunction, w.protos["Function"])
	do := func(inner *calling, args []value) value {
		here := in.within()
		if n.Kind == api.NodeFunction && n.Name != "" {
			here.here[n.Name] = &variable{f, true}
			here = here.within()
		}
		last := len(n.Kids) - 1
		for i, p := range n.Kids[:last] {
			here.here[p.Name] = &variable{at(args, i), true}
		}
		o, t := guard(func() outcome { return inner.items(n.Kids[last].Kids, here) })
		if t != nil {
			panic(*t)
		}
		return o.value
	}
	if n.Op == "*" {
		f.star = true
		f.body = func(this value, args []value) value {
			g := w.object(api.KindGenerator, w.protos["Generator"])
			g.resume = w.resumed(func(inner *calling) value {
				inner.this = this
				return do(inner, args)
			})
			return g
		}
		return f
	}
	f.body = func(this value, args []value) value { return do(&calling{model: w, this: this}, args) }
	proto := w.plain()
	proto.hide("constructor", f)
	f.lay("prototype", property{value: proto, w: true})
	return f
}

// resumed lets a call that yields go on, time and again.
func (w *model) resumed(do func(c *calling) value) func(int, value) (value, bool) {
	var how int
	var sent, answer value
	next, stop := iter.Pull(func(yield func(value) bool) {
		defer func() {
			if x := recover(); x != nil && x != (unneeded{}) {
				panic(x)
			}
		}()
		answer = do(&calling{model: w, yield: func(v value) (int, value) {
			if !yield(v) {
				panic(unneeded{})
			}
			return how, sent
		}})
	})
	w.idle = append(w.idle, stop)
	return func(h int, s value) (value, bool) {
		how, sent = h, s
		if v, ok := next(); ok {
			return v, false
		}
		return answer, true
	}
}

func (c *calling) maybe(n api.Node, in *names) value {
	if n.Kind == 0 {
		return nil
	}
	return c.expr(n, in)
}

func (c *calling) read(n api.Node, in *names) value {
	v := in.find(n.Name)
	if !v.reached {
		c.fail("ReferenceError", n.Name)
	}
	return v.value
}

func (c *calling) key(n api.Node, in *names) string {
	v := c.expr(n, in)
	c.burn()
	return c.text(written(c.prim(v, true)))
}

func (c *calling) expr(n api.Node, in *names) value {
	c.burn()
	switch n.Kind {
	case api.NodeNumber:
		return bits(n.Num)
	case api.NodeString:
		return n.Name
	case api.NodeName:
		return c.read(n, in)
	case api.NodeTrue, api.NodeFalse:
		return n.Kind == api.NodeTrue
	case api.NodeNull:
		return null{}
	case api.NodeThis:
		return c.this
	case api.NodeArray:
		a := c.array()
		for _, k := range n.Kids {
			c.push(a, c.expr(k, in))
		}
		return a
	case api.NodeObject:
		return c.literal(n, in)
	case api.NodeFunction:
		return c.closure(n, in)
	case api.NodeMember:
		of := c.expr(n.Kids[0], in)
		return c.get(of, c.key(n.Kids[1], in))
	case api.NodeCall:
		return c.calls(n, in)
	case api.NodeNew:
		f := c.expr(n.Kids[0], in)
		return c.construct(f, c.exprs(n.Kids[1:], in)...)
	case api.NodeUnary:
		return c.unary(n, in)
	case api.NodeUpdate, api.NodeAssign:
		return c.change(n, in)
	case api.NodeBinary:
		a := c.expr(n.Kids[0], in)
		return c.binary(n.Op, a, c.expr(n.Kids[1], in))
	case api.NodeLogic:
		a := c.expr(n.Kids[0], in)
		if truthy(a) != (n.Op == "&&") {
			return a
		}
		return c.expr(n.Kids[1], in)
	case api.NodeCond:
		if truthy(c.expr(n.Kids[0], in)) {
			return c.expr(n.Kids[1], in)
		}
		return c.expr(n.Kids[2], in)
	case api.NodeYield:
		how, sent := c.yield(c.maybe(n.Kids[0], in))
		switch how {
		case 1:
			panic(thrown{sent})
		case 2:
			panic(returning{sent})
		}
		return sent
	}
	return nil
}

func (c *calling) literal(n api.Node, in *names) value {
	o := c.plain()
	for _, p := range n.Kids {
		c.burn()
		key := c.key(p.Kids[0], in)
		w := wish{"enumerable": true, "configurable": true}
		if v := c.expr(p.Kids[1], in); p.Op == "init" {
			w["value"], w["writable"] = v, true
		} else {
			w[p.Op] = v
		}
		o.define(key, w)
	}
	return o
}

func (c *calling) exprs(l []api.Node, in *names) []value {
	var values []value
	for _, n := range l {
		values = append(values, c.expr(n, in))
	}
	return values
}

func (c *calling) calls(n api.Node, in *names) value {
	var f, this value
	if callee := n.Kids[0]; callee.Kind == api.NodeMember {
		this = c.expr(callee.Kids[0], in)
		f = c.get(this, c.key(callee.Kids[1], in))
	} else {
		f = c.expr(callee, in)
	}
	return c.call(f, this, c.exprs(n.Kids[1:], in)...)
}

func (c *calling) number(v value) float64 {
	c.burn()
	return number(c.prim(v, false))
}

func (c *calling) unary(n api.Node, in *names) value {
	if kid := n.Kids[0]; n.Op == "delete" && kid.Kind == api.NodeMember {
		of := c.expr(kid.Kids[0], in)
		return c.delete(of, c.key(kid.Kids[1], in))
	}
	v := c.expr(n.Kids[0], in)
	switch n.Op {
	case "delete":
		return true
	case "void":
		return nil
	case "typeof":
		return typeOf(v)
	case "!":
		return !truthy(v)
	}
	x := c.number(v)
	switch n.Op {
	case "-":
		return -x
	case "~":
		return float64(^toInt32(x))
	}
	return x
}

func (c *calling) binary(sign string, a, b value) value {
	switch sign {
	case "===":
		return a == b
	case "!==":
		return a != b
	case "==", "!=":
		a = c.primIf(a, b)
		return equal(a, c.primIf(b, a)) == (sign == "==")
	case "in":
		return c.in(c.text(written(c.prim(a, true))), b)
	case "instanceof":
		return c.instance(a, b)
	}
	a = c.prim(a, false)
	return c.operate(sign, a, c.prim(b, false))
}

// change does assignments and updates.
func (c *calling) change(n api.Node, in *names) value {
	left := n.Kids[0]
	get := func() value { return c.read(left, in) }
	set := func(v value) {
		c.read(left, in)
		in.find(left.Name).value = v
	}
	if left.Kind == api.NodeMember {
		of := c.expr(left.Kids[0], in)
		key := c.key(left.Kids[1], in)
		get = func() value { return c.get(of, key) }
		set = func(v value) { c.set(of, key, v) }
	}
	if n.Kind == api.NodeUpdate {
		old := c.number(get())
		by := map[string]float64{"++": 1, "--": -1}[n.Op]
		set(old + by)
		if n.Name == "pre" {
			return old + by
		}
		return old
	}
	var v value
	if n.Op == "=" {
		v = c.expr(n.Kids[1], in)
	} else {
		old := get()
		v = c.binary(strings.TrimSuffix(n.Op, "="), old, c.expr(n.Kids[1], in))
	}
	set(v)
	return v
}
