package emit

import "brazier/api"

// into reckons an expression; its value comes to a register, which nothing within the expression reads.
func (f *function) into(n api.Node, to int) {
	mark := f.top
	switch n.Kind {
	case api.NodeNumber:
		f.emit(api.OpConst, to, f.number(n.Num))
	case api.NodeString:
		f.emit(api.OpConst, to, f.text(n.Name))
	case api.NodeName:
		f.name(n, to)
	case api.NodeTrue:
		f.emit(api.OpSmall, to, api.SmallTrue)
	case api.NodeFalse:
		f.emit(api.OpSmall, to, api.SmallFalse)
	case api.NodeNull:
		f.emit(api.OpSmall, to, api.SmallNull)
	case api.NodeThis:
		f.emit(api.OpThis, to)
	case api.NodeArray:
		f.array(n, to)
	case api.NodeObject:
		f.object(n, to)
	case api.NodeFunction:
		f.emit(api.OpClosure, to, f.closure(n, f))
	case api.NodeMember:
		f.get(f.member(n, to), to)
	case api.NodeCall:
		f.call(n, to)
	case api.NodeNew:
		f.make(n, to)
	case api.NodeUnary:
		f.unary(n, to)
	case api.NodeUpdate:
		f.update(n, to)
	case api.NodeBinary:
		f.binary(n, to)
	case api.NodeLogic:
		f.logic(n, to)
	case api.NodeCond:
		f.cond(n, to)
	case api.NodeAssign:
		f.assign(n, to)
	case api.NodeYield:
		f.yield(n, to)
	default: // NodeUndefined, or a node of nothing where there may be one
		f.emit(api.OpSmall, to, api.SmallUndefined)
	}
	f.top = mark
}

// value reckons an expression into one more register.
func (f *function) value(n api.Node) int {
	t := f.temp()
	f.into(n, t)
	return t
}

func (f *function) array(n api.Node, to int) {
	f.emit(api.OpArray, to)
	for _, kid := range n.Kids {
		t := f.value(kid)
		f.emit(api.OpPush, to, t)
		f.top = t
	}
}

func (f *function) object(n api.Node, to int) {
	f.emit(api.OpObject, to)
	for _, p := range n.Kids {
		key := f.temp()
		f.key(p.Kids[0], key)
		f.emit(defines(p.Op), to, key, f.value(p.Kids[1]))
		f.top = key
	}
}

func defines(op string) int {
	switch op {
	case "get":
		return api.OpDefGet
	case "set":
		return api.OpDefSet
	}
	return api.OpDef
}

func (f *function) unary(n api.Node, to int) {
	if n.Op == "delete" {
		f.remove(n.Kids[0], to)
		return
	}
	f.into(n.Kids[0], to)
	switch n.Op {
	case "void":
		f.emit(api.OpSmall, to, api.SmallUndefined)
	case "typeof":
		f.emit(api.OpTypeof, to, to)
	case "!":
		f.emit(api.OpNot, to, to)
	case "-":
		f.makeNumber(to)
		f.emit(api.OpNeg, to, to)
	case "~":
		f.makeNumber(to)
		f.emit(api.OpBitNot, to, to)
	default:
		f.makeNumber(to)
	}
}

func (f *function) binary(n api.Node, to int) {
	f.into(n.Kids[0], to)
	f.operate(n.Op, to, f.value(n.Kids[1]))
}

func (f *function) logic(n api.Node, to int) {
	f.into(n.Kids[0], to)
	op := api.OpJumpIf
	if n.Op == "&&" {
		op = api.OpJumpNot
	}
	over := f.emit(op, to)
	f.into(n.Kids[1], to)
	f.aim(f.here(), over)
}

func (f *function) cond(n api.Node, to int) {
	f.into(n.Kids[0], to)
	other := f.emit(api.OpJumpNot, to)
	f.into(n.Kids[1], to)
	over := f.emit(api.OpJump)
	f.aim(f.here(), other)
	f.into(n.Kids[2], to)
	f.aim(f.here(), over)
}
