package machine

import (
	"brazier/api"
	"brazier/props"
	"brazier/word"
)

// wishes are the keys by which a property is wished for, what of it each one names, and the flag, if it is one.
var wishes = [...]struct {
	key       string
	has, flag int
}{
	{"value", api.HasValue, 0},
	{"writable", api.HasWritable, api.Writable},
	{"enumerable", api.HasEnumerable, api.Enumerable},
	{"configurable", api.HasConfigurable, api.Configurable},
	{"get", api.HasGet, 0},
	{"set", api.HasSet, 0},
}

func (m *Machine) create(proto api.Word) api.Word {
	if !m.isObject(proto) && proto != word.Null {
		m.fail(api.BuiltinTypeError, "create")
	}
	return m.make(api.KindPlain, proto)
}

// objectNative does those of Object that must be given one.
func (m *Machine) objectNative(number int, args []api.Word) api.Word {
	o := arg(args, 0)
	if !m.isObject(o) {
		m.fail(api.BuiltinTypeError, "Object")
	}
	switch number {
	case nativeGetPrototypeOf:
		return m.heap.Proto(o)
	case nativeSetPrototypeOf:
		if !props.SetProto(m.heap, o, arg(args, 1)) {
			m.fail(api.BuiltinTypeError, "setPrototypeOf")
		}
	case nativeDefineProperty:
		w, ok := m.wish(arg(args, 2))
		if !ok || !props.Define(m.heap, o, m.written(arg(args, 1)), w) {
			m.fail(api.BuiltinTypeError, "defineProperty")
		}
	case nativeDescriptor:
		return m.descriptor(o, m.written(arg(args, 1)))
	case nativeKeys:
		return m.keys(o)
	case nativePreventExtensions:
		m.heap.Close(o)
	case nativeIsExtensible:
		return word.Bool(m.heap.Open(o))
	}
	return o
}

// wish is what an object says that a property is to be; false, if it does not say that as it must.
func (m *Machine) wish(o api.Word) (api.Wish, bool) {
	var w api.Wish
	for _, part := range wishes {
		_, d, has := props.Lookup(m.heap, o, part.key)
		if !has {
			continue
		}
		if isAccessor(d) {
			return api.Wish{}, false
		}
		w.Has |= part.has
		switch part.has {
		case api.HasValue:
			w.Value = d.Value
		case api.HasGet:
			w.Get = d.Value
		case api.HasSet:
			w.Set = d.Value
		default:
			if m.truthy(d.Value) {
				w.Flags |= part.flag
			}
		}
	}
	return w, m.isObject(o) && m.mayBeCalled(w.Has&api.HasGet, w.Get) && m.mayBeCalled(w.Has&api.HasSet, w.Set)
}

// mayBeCalled tells whether what is named is a getter or a setter; what is not named may be anything.
func (m *Machine) mayBeCalled(named int, w api.Word) bool {
	return named == 0 || w == word.Undefined || m.isCallable(w)
}

// descriptor is an object that tells what an own property is.
func (m *Machine) descriptor(of api.Word, key string) api.Word {
	d, has := props.Own(m.heap, of, key)
	if !has {
		return word.Undefined
	}
	o := m.plain()
	if isAccessor(d) {
		m.put(o, "get", d.Value, free)
		m.put(o, "set", d.Set, free)
	} else {
		m.put(o, "value", d.Value, free)
		m.put(o, "writable", word.Bool(d.Flags&api.Writable != 0), free)
	}
	m.put(o, "enumerable", word.Bool(d.Flags&api.Enumerable != 0), free)
	m.put(o, "configurable", word.Bool(d.Flags&api.Configurable != 0), free)
	return o
}

// keys is an array of an object's keys, as many as it takes.
func (m *Machine) keys(of api.Word) api.Word {
	a := m.array()
	l := props.Keys(m.heap, of)
	for _, key := range l[:min(len(l), api.MaxElems)] {
		m.push(a, m.text(key))
	}
	return a
}

func (m *Machine) hasOwn(this, key api.Word) bool {
	if lacks(this) {
		m.fail(api.BuiltinTypeError, "hasOwnProperty")
	}
	_, has := props.Own(m.heap, this, m.written(key))
	return has
}
