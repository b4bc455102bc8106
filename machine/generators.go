package machine

import (
	"slices"

	"brazier/api"
	"brazier/word"
)

// How a generator is told to go on.
const (
	howNext = iota
	howThrow
	howReturn
)

// goOn lets a generator go on, for the instruction that is being done.
func (m *Machine) goOn(g api.Word, how int, sent api.Word) {
	if !m.isA(g, api.KindGenerator) {
		m.fail(api.BuiltinTypeError, "generator")
	}
	if m.runs(g) {
		m.fail(api.BuiltinTypeError, "generator runs")
	}
	c, waits := m.waiting[g]
	if !waits || !c.begun && how != howNext {
		delete(m.waiting, g)
		m.over(how, sent)
		return
	}
	m.roomForCall()
	delete(m.waiting, g)
	c.resume(how, sent)
	m.calls = append(m.calls, c)
}

// runs tells whether a generator's call is under way.
func (m *Machine) runs(g api.Word) bool {
	return slices.ContainsFunc(m.calls, func(c *call) bool { return c.generator == g })
}

// over is what a generator answers that does not go on any more.
func (m *Machine) over(how int, sent api.Word) {
	switch how {
	case howNext:
		m.answer(m.told(word.Undefined, true))
	case howThrow:
		panic(thrown{sent})
	default:
		m.answer(m.told(sent, true))
	}
}

// resume goes on behind an OpYield; ahead of the first instruction nobody asks what is sent.
func (c *call) resume(how int, sent api.Word) {
	if !c.begun {
		c.begun = true
		return
	}
	i := c.next()
	c.regs[i.A] = sent
	c.give(i.B, word.Int(int32(how)))
}

// yield lets the generator that goes on wait.
func (m *Machine) yield(c *call, w api.Word) {
	told := m.told(w, false)
	m.pop()
	m.waiting[c.generator] = c
	m.answer(told)
}

// told is what who let a generator go on is answered.
func (m *Machine) told(w api.Word, done bool) api.Word {
	o := m.plain()
	m.put(o, "value", w, free)
	m.put(o, "done", word.Bool(done), free)
	return o
}
