package machine

import (
	"brazier/api"
	"brazier/scope"
	"brazier/word"
)

// realm is what is there ahead of a program.
type realm struct {
	builtins          [api.Builtins]api.Word
	protos            [api.Builtins]api.Word // of the builtins that have one
	generators        api.Word               // the prototype of all of them
	prim              api.Word
	valueOf, toString api.Word
}

// build makes all of it that needs no code.
func (m *Machine) build() {
	r := &m.realm
	r.valueOf, r.toString = m.text("valueOf"), m.text("toString")
	r.protos[api.BuiltinObject] = m.make(api.KindPlain, word.Null)
	m.under(api.BuiltinObject, api.BuiltinFunction, api.BuiltinArray, api.BuiltinString, api.BuiltinNumber, api.BuiltinBoolean, api.BuiltinError)
	m.under(api.BuiltinError, api.BuiltinTypeError, api.BuiltinRangeError, api.BuiltinReferenceError)
	r.generators = m.plain()
	r.builtins[api.BuiltinMath] = m.plain()
	r.builtins[api.BuiltinNaN] = word.Number(none)
	r.builtins[api.BuiltinInfinity] = word.Number(infinite)
	r.builtins[api.BuiltinPrint] = m.newNative(api.BuiltinPrint)
	for _, b := range []int{api.BuiltinObject, api.BuiltinFunction, api.BuiltinArray, api.BuiltinBoolean} {
		m.pair(b, m.newNative(b))
	}
	for b := api.BuiltinError; b <= api.BuiltinReferenceError; b++ {
		m.pair(b, m.newNative(b))
		m.put(r.protos[b], "name", m.text(scope.Builtins()[b]), hidden)
		m.put(r.protos[b], "message", m.text(""), hidden)
	}
	m.layNatives()
}

// under makes prototypes under another one.
func (m *Machine) under(above int, builtins ...int) {
	for _, b := range builtins {
		m.realm.protos[b] = m.make(api.KindPlain, m.realm.protos[above])
	}
}

// pair brings a builtin and its prototype together.
func (m *Machine) pair(b int, f api.Word) {
	m.realm.builtins[b] = f
	m.put(f, "prototype", m.realm.protos[b], 0)
	m.put(m.realm.protos[b], "constructor", f, hidden)
}

func (m *Machine) layNatives() {
	r := &m.realm
	m.lay(r.builtins[api.BuiltinObject], nativeCreate, nativeGetPrototypeOf, nativeSetPrototypeOf, nativeDefineProperty,
		nativeDescriptor, nativeKeys, nativePreventExtensions, nativeIsExtensible)
	m.lay(r.protos[api.BuiltinObject], nativeHasOwnProperty, nativeObjectText, nativeValueOf)
	m.lay(r.protos[api.BuiltinFunction], nativeCall, nativeApply, nativeFunctionText)
	m.lay(r.builtins[api.BuiltinArray], nativeIsArray)
	m.lay(r.protos[api.BuiltinArray], nativePush, nativePop)
	m.lay(r.protos[api.BuiltinString], nativeCharCodeAt, nativeSlice, nativeIndexOf, nativeShown, nativeValueOf)
	m.lay(r.protos[api.BuiltinNumber], nativeShown, nativeValueOf)
	m.lay(r.protos[api.BuiltinBoolean], nativeShown, nativeValueOf)
	m.lay(r.builtins[api.BuiltinMath], nativeFloor, nativeTrunc, nativeAbs, nativeMin, nativeMax, nativeImul)
	m.lay(r.generators, nativeNext, nativeThrow, nativeReturn, nativeIterator)
}

// lay lays natives at an object, each under its own key.
func (m *Machine) lay(at api.Word, numbers ...int) {
	for _, number := range numbers {
		m.put(at, nativeNames[number], m.newNative(number), hidden)
	}
}

func (m *Machine) newNative(number int) api.Word {
	f := m.make(api.KindNative, m.realm.protos[api.BuiltinFunction])
	m.heap.SetInner(f, []api.Word{word.Int(int32(number))})
	return f
}

// takeOver brings what the prelude has laid at Object to where it belongs.
func (m *Machine) takeOver() {
	r := &m.realm
	r.prim = m.taken("$$prim")
	m.pair(api.BuiltinString, m.taken("$$string"))
	m.pair(api.BuiltinNumber, m.taken("$$number"))
	m.put(r.protos[api.BuiltinArray], "$$iterator", m.taken("$$values"), hidden)
	m.put(r.protos[api.BuiltinString], "$$iterator", m.taken("$$texts"), hidden)
	m.put(r.protos[api.BuiltinError], "toString", m.taken("$$message"), hidden)
}

func (m *Machine) taken(key string) api.Word {
	object := m.realm.builtins[api.BuiltinObject]
	d, _ := m.heap.Get(object, key)
	m.heap.Drop(object, key)
	return d.Value
}
