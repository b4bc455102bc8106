package machine

import (
	"strings"

	"brazier/api"
	"brazier/numtext"
	"brazier/props"
	"brazier/small"
	"brazier/soft"
	"brazier/word"
)

// Some numbers, by their bits.
const (
	one       = 0x3ff << 52
	infinite  = 0x7ff << 52
	none      = infinite | 1<<51
	minusZero = 1 << 63
)

func (m *Machine) isObject(w api.Word) bool {
	_, ok := m.heap.Kind(w)
	return ok
}

// isA tells whether a word is an object of that kind.
func (m *Machine) isA(w api.Word, kind int) bool {
	k, ok := m.heap.Kind(w)
	return ok && k == kind
}

func (m *Machine) isCallable(w api.Word) bool {
	return m.isA(w, api.KindFunction) || m.isA(w, api.KindNative)
}

// inside is the number that a function or a native has for itself (-1: none), and what it took along.
func (m *Machine) inside(w api.Word) (int, []api.Word) {
	inner := m.heap.Inner(w)
	if len(inner) == 0 {
		return -1, nil
	}
	n, ok := word.IsInt(inner[0])
	if !ok {
		return -1, nil
	}
	return int(n), inner[1:]
}

// function is inside of a function that there is code for.
func (m *Machine) function(w api.Word) (int, []api.Word, bool) {
	if !m.isA(w, api.KindFunction) {
		return 0, nil, false
	}
	number, taken := m.inside(w)
	return number, taken, number >= 0 && number < len(m.program.Funcs)
}

func (m *Machine) truthy(w api.Word) bool {
	switch w {
	case word.Undefined, word.Null, word.False, word.Int(0), minusZero, none:
		return false
	}
	s, ok := m.heap.TextOf(w)
	return !ok || s != ""
}

// number is what a primitive is as one; what is none is no number.
func (m *Machine) number(w api.Word) uint64 {
	if bits, ok := word.Bits(w); ok {
		return bits
	}
	if s, ok := m.heap.TextOf(w); ok {
		return numtext.Read(s)
	}
	switch w {
	case word.Null, word.False:
		return 0
	case word.True:
		return one
	}
	return none
}

func (m *Machine) numeric(w api.Word) api.Word {
	if _, ok := word.Bits(w); ok {
		return w
	}
	return word.Number(m.number(w))
}

// written is what a primitive is as a text; what is none stands for undefined.
func (m *Machine) written(w api.Word) string {
	if s, ok := m.heap.TextOf(w); ok {
		return s
	}
	if bits, ok := word.Bits(w); ok {
		return numtext.Print(bits)
	}
	switch w {
	case word.Null:
		return "null"
	case word.False:
		return "false"
	case word.True:
		return "true"
	}
	return "undefined"
}

// shown is what a value is in a line that is printed.
func (m *Machine) shown(w api.Word) string {
	switch {
	case !m.isObject(w):
		return m.written(w)
	case m.isA(w, api.KindError):
		return m.part(w, "name") + ": " + m.part(w, "message")
	case m.isCallable(w):
		return "[function]"
	}
	return "[object]"
}

// part is one of an error that is shown.
func (m *Machine) part(o api.Word, key string) string {
	_, d, has := props.Lookup(m.heap, o, key)
	if !has || isAccessor(d) || m.isObject(d.Value) {
		return ""
	}
	return m.written(d.Value)
}

func (m *Machine) typeOf(w api.Word) string {
	switch {
	case m.isCallable(w):
		return "function"
	case m.isObject(w), w == word.Null:
		return "object"
	case w == word.True, w == word.False:
		return "boolean"
	}
	if _, ok := m.heap.TextOf(w); ok {
		return "string"
	}
	if _, ok := word.Bits(w); ok {
		return "number"
	}
	return "undefined"
}

// operate is what one of OpAdd to OpNotSame makes of two values.
func (m *Machine) operate(op int, a, b api.Word) api.Word {
	switch op {
	case api.OpEqual:
		return word.Bool(m.equal(a, b))
	case api.OpNotEqual:
		return word.Bool(!m.equal(a, b))
	case api.OpSame:
		return word.Bool(same(a, b))
	case api.OpNotSame:
		return word.Bool(!same(a, b))
	}
	s, isText := m.heap.TextOf(a)
	t, isText2 := m.heap.TextOf(b)
	switch {
	case op == api.OpAdd && (isText || isText2):
		return m.text(m.written(a) + m.written(b))
	case op >= api.OpLess && isText && isText2:
		return small.Slow(op, word.Int(int32(strings.Compare(s, t))), word.Int(0))
	}
	return small.Slow(op, m.numeric(a), m.numeric(b))
}

func same(a, b api.Word) bool {
	x, ok := word.Bits(a)
	y, ok2 := word.Bits(b)
	if ok && ok2 {
		return soft.Equal(x, y)
	}
	return a == b
}

func (m *Machine) equal(a, b api.Word) bool {
	if lacks(a) || lacks(b) {
		return lacks(a) && lacks(b)
	}
	_, isText := m.heap.TextOf(a)
	_, isText2 := m.heap.TextOf(b)
	if m.isObject(a) || m.isObject(b) || isText && isText2 {
		return a == b
	}
	return soft.Equal(m.number(a), m.number(b))
}

func lacks(w api.Word) bool { return w == word.Undefined || w == word.Null }
