package machine

import (
	"brazier/api"
	"brazier/props"
	"brazier/soft"
	"brazier/word"
)

// do does an instruction of the call that goes on.
func (m *Machine) do(c *call, i api.Instr) {
	switch {
	case i.Op <= api.OpClosure:
		m.load(c, i)
	case i.Op <= api.OpText:
		m.convert(c, i)
	case i.Op <= api.OpNotSame:
		c.give(i.A, m.operate(i.Op, c.regs[i.B], c.regs[i.C]))
	case i.Op <= api.OpDefSet:
		m.member(c, i)
	default:
		m.flow(c, i)
	}
}

// load does those that bring something to a register, or to a box.
func (m *Machine) load(c *call, i api.Instr) {
	switch i.Op {
	case api.OpNop:
		c.pc++
	case api.OpConst:
		c.give(i.A, m.constant(c.code.Consts[i.B]))
	case api.OpSmall:
		c.give(i.A, word.Undefined+api.Word(i.B))
	case api.OpMove:
		c.give(i.A, c.regs[i.B])
	case api.OpThis:
		c.give(i.A, c.this)
	case api.OpSelf:
		c.give(i.A, c.self)
	case api.OpNative:
		c.give(i.A, m.realm.builtins[i.B])
	case api.OpBox:
		box := m.make(api.KindBox, word.Null)
		m.heap.SetInner(box, []api.Word{word.Hole})
		c.give(i.A, box)
	case api.OpBoxGet:
		c.give(i.A, m.boxed(c.regs[i.B]))
	case api.OpBoxSet:
		if box := c.regs[i.A]; m.isA(box, api.KindBox) {
			m.heap.SetInner(box, []api.Word{c.regs[i.B]})
		}
		c.pc++
	case api.OpFree:
		c.give(i.A, c.taken[i.B])
	case api.OpHole:
		if c.regs[i.A] == word.Hole {
			m.fail(api.BuiltinReferenceError, c.code.Consts[i.B].Text)
		}
		c.pc++
	case api.OpClosure:
		c.give(i.A, m.closure(c, i.B))
	}
}

func (m *Machine) constant(k api.Const) api.Word {
	if k.IsText {
		return m.text(k.Text)
	}
	return word.Number(k.Bits)
}

func (m *Machine) boxed(box api.Word) api.Word {
	inner := m.heap.Inner(box)
	if !m.isA(box, api.KindBox) || len(inner) == 0 {
		return word.Undefined
	}
	return inner[0]
}

// closure makes a function of the code with that number, which takes along what its maker has.
func (m *Machine) closure(maker *call, number int) api.Word {
	code := &m.program.Funcs[number]
	f := m.make(api.KindFunction, m.realm.protos[api.BuiltinFunction])
	inner := []api.Word{word.Int(int32(number))}
	for _, t := range code.Captures {
		if t.Free {
			inner = append(inner, maker.taken[t.Index])
		} else {
			inner = append(inner, maker.regs[t.Index])
		}
	}
	m.heap.SetInner(f, inner)
	if !code.Generator {
		proto := m.plain()
		m.put(proto, "constructor", f, hidden)
		m.put(f, "prototype", proto, api.Writable)
	}
	return f
}

// convert does those that make one value another.
func (m *Machine) convert(c *call, i api.Instr) {
	w := c.regs[i.B]
	switch i.Op {
	case api.OpPrim:
		m.prim(w, i.C == 1)
	case api.OpPrimIf:
		if other := c.regs[i.C]; m.isObject(other) || other == word.Undefined || other == word.Null {
			c.give(i.A, w)
		} else {
			m.prim(w, false)
		}
	case api.OpNum:
		c.give(i.A, m.numeric(w))
	case api.OpNeg:
		c.give(i.A, word.Number(soft.Neg(m.number(w))))
	case api.OpBitNot:
		c.give(i.A, word.Int(^soft.ToInt32(m.number(w))))
	case api.OpNot:
		c.give(i.A, word.Bool(!m.truthy(w)))
	case api.OpTypeof:
		c.give(i.A, m.text(m.typeOf(w)))
	case api.OpText:
		c.give(i.A, m.text(m.written(w)))
	}
}

// prim is a primitive at once, or what the prelude makes of an object.
func (m *Machine) prim(w api.Word, text bool) {
	if !m.isObject(w) {
		m.answer(w)
		return
	}
	first, second := m.realm.valueOf, m.realm.toString
	if text {
		first, second = second, first
	}
	m.call(m.realm.prim, word.Undefined, []api.Word{w, first, second})
}

// member does those that ask objects for something, or make them.
func (m *Machine) member(c *call, i api.Instr) {
	switch i.Op {
	case api.OpGet:
		m.get(c.regs[i.B], m.written(c.regs[i.C]))
	case api.OpSet:
		m.set(c.regs[i.A], m.written(c.regs[i.B]), c.regs[i.C])
	case api.OpGetNamed:
		m.get(c.regs[i.B], c.code.Consts[i.C].Text)
	case api.OpSetNamed:
		m.set(c.regs[i.A], c.code.Consts[i.B].Text, c.regs[i.C])
	case api.OpDelete:
		if o := c.regs[i.B]; !m.isObject(o) || !props.Delete(m.heap, o, m.written(c.regs[i.C])) {
			m.fail(api.BuiltinTypeError, "delete")
		}
		c.give(i.A, word.True)
	case api.OpIn:
		c.give(i.A, word.Bool(m.in(m.written(c.regs[i.B]), c.regs[i.C])))
	case api.OpInstance:
		c.give(i.A, word.Bool(m.instance(c.regs[i.B], c.regs[i.C])))
	case api.OpObject:
		c.give(i.A, m.plain())
	case api.OpArray:
		c.give(i.A, m.array())
	case api.OpPush:
		m.push(c.regs[i.A], c.regs[i.B])
		c.pc++
	default:
		props.Define(m.heap, c.regs[i.A], m.written(c.regs[i.B]), wishFor(i.Op, c.regs[i.C]))
		c.pc++
	}
}

// wishFor is the property that an OpDef and the like lay.
func wishFor(op int, w api.Word) api.Wish {
	switch op {
	case api.OpDefGet:
		return api.Wish{Has: api.HasGet | api.HasEnumerable | api.HasConfigurable, Get: w, Flags: free}
	case api.OpDefSet:
		return api.Wish{Has: api.HasSet | api.HasEnumerable | api.HasConfigurable, Set: w, Flags: free}
	}
	return api.Wish{Has: api.HasValue | api.HasWritable | api.HasEnumerable | api.HasConfigurable, Value: w, Flags: free}
}

// flow does those that may go on elsewhere.
func (m *Machine) flow(c *call, i api.Instr) {
	switch i.Op {
	case api.OpCall:
		m.call(c.regs[i.B], c.regs[i.B+1], c.regs[i.B+2:i.B+2+i.C])
	case api.OpNew:
		m.construct(c.regs[i.B], c.regs[i.B+2:i.B+2+i.C])
	case api.OpReturn:
		m.giveBack(c.regs[i.A])
	case api.OpThrow:
		m.unwind(c.regs[i.A])
	case api.OpJump:
		c.pc = i.A
	case api.OpJumpIf:
		c.branch(m.truthy(c.regs[i.A]), i.B)
	case api.OpJumpNot:
		c.branch(!m.truthy(c.regs[i.A]), i.B)
	case api.OpYield:
		m.yield(c, c.regs[i.A])
	case api.OpCatch:
		c.give(i.A, c.caught)
		c.caught = word.Undefined
	case api.OpIterable:
		if !m.isObject(c.regs[i.A]) {
			m.fail(api.BuiltinTypeError, "iterator")
		}
		c.pc++
	}
}

func (c *call) branch(there bool, to int) {
	if there {
		c.pc = to
	} else {
		c.pc++
	}
}
