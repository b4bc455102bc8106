package machine

import (
	"brazier/api"
	"brazier/props"
	"brazier/word"
)

// call is one of a function. While it waits for another one, pc is still where that one was called: so that is the instruction that is being done.
type call struct {
	number    int
	code      *api.Func
	pc        int
	regs      []api.Word
	this      api.Word
	self      api.Word   // the function; of the program itself there is none
	taken     []api.Word // the boxes that the function took along
	caught    api.Word   // what was thrown, till an OpCatch takes it
	generator api.Word   // the one whose call it is; else undefined
	begun     bool
}

// next is the next instruction.
func (c *call) next() api.Instr { return c.code.Code[c.pc] }

// give puts what an instruction makes into a register, and goes on behind it.
func (c *call) give(to int, w api.Word) {
	c.regs[to] = w
	c.pc++
}

// newCall is one that stands ahead of its first instruction.
func (m *Machine) newCall(number int, args []api.Word) *call {
	code := &m.program.Funcs[number]
	c := &call{number: number, code: code, this: word.Undefined, self: word.Undefined, caught: word.Undefined, generator: word.Undefined}
	c.regs = make([]api.Word, code.Regs)
	for i := range c.regs {
		c.regs[i] = word.Undefined
	}
	copy(c.regs[:code.Params], args)
	return c
}

// top is the call that goes on; none, behind the end.
func (m *Machine) top() *call {
	if m == nil || len(m.calls) == 0 {
		return nil
	}
	return m.calls[len(m.calls)-1]
}

func (m *Machine) pop() {
	last := len(m.calls) - 1
	m.calls[last] = nil
	m.calls = m.calls[:last]
}

// answer is what comes of what the instruction that is being done has called.
func (m *Machine) answer(w api.Word) {
	c := m.top()
	i := c.next()
	if i.Op == api.OpSet || i.Op == api.OpSetNamed { // what a setter answers is not asked
		c.pc++
		return
	}
	c.give(i.A, w)
}

// call lets the instruction that is being done call something: the answer comes at once, or when the call that begins here is over.
func (m *Machine) call(callee, this api.Word, args []api.Word) {
	var round turns
	for m.isA(callee, api.KindNative) {
		number, _ := m.inside(callee)
		switch number {
		case nativeCall:
			callee, this, args = this, arg(args, 0), args[min(1, len(args)):]
		case nativeApply:
			if round.again([3]api.Word{this, arg(args, 0), arg(args, 1)}) {
				m.fail(api.BuiltinRangeError, "calls")
			}
			callee, this, args = this, arg(args, 0), m.elements(arg(args, 1))
		case nativeNext, nativeThrow, nativeReturn:
			m.goOn(this, number-nativeNext, arg(args, 0))
			return
		default:
			m.answer(m.native(number, this, args))
			return
		}
	}
	m.enter(callee, this, args)
}

// turns tells whether a row of applies comes round to where it was (an array can hand itself on): it would never end. What is met is held against what was met last at a power of two.
type turns struct {
	many int
	mark [3]api.Word
}

func (t *turns) again(now [3]api.Word) bool {
	if t.many > 0 && now == t.mark {
		return true
	}
	t.many++
	if t.many&(t.many-1) == 0 {
		t.mark = now
	}
	return false
}

// enter begins a call of a function; of a generator's it is laid by.
func (m *Machine) enter(f, this api.Word, args []api.Word) {
	number, taken, ok := m.function(f)
	if !ok {
		m.fail(api.BuiltinTypeError, "call")
	}
	m.roomForCall()
	c := m.newCall(number, args)
	c.self, c.this = f, this
	c.taken = make([]api.Word, len(c.code.Captures))
	copy(c.taken, taken)
	if c.code.Generator {
		c.generator = m.make(api.KindGenerator, m.realm.generators)
		m.waiting[c.generator] = c
		m.answer(c.generator)
		return
	}
	c.begun = true
	m.calls = append(m.calls, c)
}

func (m *Machine) roomForCall() {
	if len(m.calls) >= api.MaxFrames {
		m.fail(api.BuiltinRangeError, "calls")
	}
}

// construct lets the instruction that is being done make something by a function.
func (m *Machine) construct(f api.Word, args []api.Word) {
	if m.isA(f, api.KindNative) {
		if number, _ := m.inside(f); !makes(number) {
			m.fail(api.BuiltinTypeError, "new")
		}
		m.call(f, word.Undefined, args)
		return
	}
	number, _, ok := m.function(f)
	if !ok || m.program.Funcs[number].Generator {
		m.fail(api.BuiltinTypeError, "new")
	}
	proto, ok := m.prototype(f)
	if !ok {
		proto = m.realm.protos[api.BuiltinObject]
	}
	m.enter(f, m.make(api.KindPlain, proto), args)
}

// makes tells whether new may take a native.
func makes(number int) bool {
	return number == api.BuiltinObject || number == api.BuiltinArray || number >= api.BuiltinError && number <= api.BuiltinReferenceError
}

// prototype is a function's, if it is data and an object.
func (m *Machine) prototype(f api.Word) (api.Word, bool) {
	_, d, has := props.Lookup(m.heap, f, "prototype")
	if !has || isAccessor(d) || !m.isObject(d.Value) {
		return word.Undefined, false
	}
	return d.Value, true
}

// giveBack ends the call that goes on.
func (m *Machine) giveBack(w api.Word) {
	over := m.top()
	m.pop()
	c := m.top()
	switch {
	case c == nil:
		m.finish(api.EndDone)
		return
	case over.generator != word.Undefined:
		w = m.told(w, true)
	case c.next().Op == api.OpNew && !m.isObject(w):
		w = over.this
	}
	m.answer(w)
}

// unwind goes on where what is thrown is caught; the calls in which it is not are over.
func (m *Machine) unwind(w api.Word) {
	for c := m.top(); c != nil; c = m.top() {
		if to, ok := c.catcher(); ok {
			c.pc, c.caught = to, w
			return
		}
		m.pop()
	}
	m.uncaught = m.shown(w)
	m.finish(api.EndThrown)
}

func (c *call) catcher() (int, bool) {
	for _, h := range c.code.Handlers {
		if h.From <= c.pc && c.pc < h.To {
			return h.Target, true
		}
	}
	return 0, false
}

// fail throws an error of the builtin's kind. It answers nothing: so it can stand where something must be answered.
func (m *Machine) fail(kind int, message string) api.Word {
	panic(thrown{m.newError(kind, m.text(message))})
}
