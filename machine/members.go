package machine

import (
	"brazier/api"
	"brazier/props"
	"brazier/word"
)

// Flags of the properties that are laid here.
const (
	free   = api.Writable | api.Enumerable | api.Configurable
	hidden = api.Writable | api.Configurable
)

func isAccessor(d api.Desc) bool { return d.Flags&api.Accessor != 0 }

// get reads a property for the instruction that is being done.
func (m *Machine) get(of api.Word, key string) {
	if s, ok := m.heap.TextOf(of); ok {
		if key == "length" {
			m.answer(word.Int(int32(len(s))))
			return
		}
		if n, ok := props.Index(key); ok && n < len(s) {
			m.answer(m.text(s[n : n+1]))
			return
		}
	}
	_, d, has := props.Lookup(m.heap, m.holder(of, key), key)
	switch {
	case !has:
		m.answer(word.Undefined)
	case isAccessor(d) && d.Value != word.Undefined:
		m.call(d.Value, of, nil)
	default: // data; or no getter, whose Value is Undefined
		m.answer(d.Value)
	}
}

// holder is the object at which a property of a value is looked for.
func (m *Machine) holder(of api.Word, key string) api.Word {
	if m.isObject(of) {
		return of
	}
	if _, ok := m.heap.TextOf(of); ok {
		return m.realm.protos[api.BuiltinString]
	}
	if _, ok := word.Bits(of); ok {
		return m.realm.protos[api.BuiltinNumber]
	}
	if of == word.True || of == word.False {
		return m.realm.protos[api.BuiltinBoolean]
	}
	return m.fail(api.BuiltinTypeError, "read "+key)
}

// set gives a property a value for the instruction that is being done.
func (m *Machine) set(of api.Word, key string, w api.Word) {
	if !m.isObject(of) {
		m.fail(api.BuiltinTypeError, "write "+key)
	}
	setter, how := props.Assign(m.heap, of, key, w)
	switch how {
	case api.AssignRefused:
		m.fail(api.BuiltinTypeError, "write "+key)
	case api.AssignCall:
		m.call(setter, of, []api.Word{w})
	default:
		m.answer(word.Undefined)
	}
}

func (m *Machine) in(key string, of api.Word) bool {
	if !m.isObject(of) {
		m.fail(api.BuiltinTypeError, "in")
	}
	_, _, has := props.Lookup(m.heap, of, key)
	return has
}

func (m *Machine) instance(w, of api.Word) bool {
	proto, ok := m.prototype(of)
	if !ok || !m.isCallable(of) {
		m.fail(api.BuiltinTypeError, "instanceof")
	}
	for w = m.heap.Proto(w); w != word.Null; w = m.heap.Proto(w) {
		if w == proto {
			return true
		}
	}
	return false
}

// push lays one more element behind the last one.
func (m *Machine) push(o, w api.Word) {
	if !m.heap.SetElem(o, m.heap.Len(o), w) {
		m.fail(api.BuiltinRangeError, "elements")
	}
}

// elements are an object's, with undefined in the place of holes.
func (m *Machine) elements(o api.Word) []api.Word {
	l := make([]api.Word, m.heap.Len(o))
	for n := range l {
		l[n], _ = m.heap.Elem(o, n)
	}
	return l
}

// make is a new object, for which there is room.
func (m *Machine) make(kind int, proto api.Word) api.Word {
	o, ok := m.heap.Make(kind, proto)
	if !ok {
		panic(noRoom{})
	}
	return o
}

func (m *Machine) plain() api.Word {
	return m.make(api.KindPlain, m.realm.protos[api.BuiltinObject])
}

func (m *Machine) array() api.Word {
	return m.make(api.KindArray, m.realm.protos[api.BuiltinArray])
}

// newError is one of the builtin's kind.
func (m *Machine) newError(kind int, message api.Word) api.Word {
	o := m.make(api.KindError, m.realm.protos[kind])
	if message != word.Undefined {
		m.put(o, "message", message, hidden)
	}
	return o
}

// put lays data.
func (m *Machine) put(o api.Word, key string, w api.Word, flags int) {
	m.heap.Put(o, key, api.Desc{Value: w, Set: word.Undefined, Flags: flags})
}

// text is a text's word, for which there is room.
func (m *Machine) text(s string) api.Word {
	w, ok := m.heap.Text(s)
	if !ok {
		panic(noRoom{})
	}
	return w
}
