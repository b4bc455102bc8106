package machine

import (
	"strings"

	"brazier/api"
	"brazier/soft"
	"brazier/word"
)

// The natives' numbers: those that are builtins have the builtins' own; behind these come those that are laid at objects.
const (
	nativeCreate = api.Builtins + iota
	nativeGetPrototypeOf
	nativeSetPrototypeOf
	nativeDefineProperty
	nativeDescriptor
	nativeKeys
	nativePreventExtensions
	nativeIsExtensible
	nativeHasOwnProperty
	nativeObjectText
	nativeValueOf
	nativeCall
	nativeApply
	nativeFunctionText
	nativeIsArray
	nativePush
	nativePop
	nativeCharCodeAt
	nativeSlice
	nativeIndexOf
	nativeShown
	nativeFloor
	nativeTrunc
	nativeAbs
	nativeMin
	nativeMax
	nativeImul
	nativeNext
	nativeThrow
	nativeReturn
	nativeIterator
)

// nativeNames are the keys under which natives are laid, by their numbers.
var nativeNames = [...]string{
	nativeCreate:            "create",
	nativeGetPrototypeOf:    "getPrototypeOf",
	nativeSetPrototypeOf:    "setPrototypeOf",
	nativeDefineProperty:    "defineProperty",
	nativeDescriptor:        "getOwnPropertyDescriptor",
	nativeKeys:              "keys",
	nativePreventExtensions: "preventExtensions",
	nativeIsExtensible:      "isExtensible",
	nativeHasOwnProperty:    "hasOwnProperty",
	nativeObjectText:        "toString",
	nativeValueOf:           "valueOf",
	nativeCall:              "call",
	nativeApply:             "apply",
	nativeFunctionText:      "toString",
	nativeIsArray:           "isArray",
	nativePush:              "push",
	nativePop:               "pop",
	nativeCharCodeAt:        "charCodeAt",
	nativeSlice:             "slice",
	nativeIndexOf:           "indexOf",
	nativeShown:             "toString",
	nativeFloor:             "floor",
	nativeTrunc:             "trunc",
	nativeAbs:               "abs",
	nativeMin:               "min",
	nativeMax:               "max",
	nativeImul:              "imul",
	nativeNext:              "next",
	nativeThrow:             "throw",
	nativeReturn:            "return",
	nativeIterator:          "$$iterator",
}

// arg is an argument; those that lack are undefined.
func arg(args []api.Word, n int) api.Word {
	if n < len(args) {
		return args[n]
	}
	return word.Undefined
}

// native does one that calls nothing.
func (m *Machine) native(number int, this api.Word, args []api.Word) api.Word {
	switch {
	case number < api.Builtins:
		return m.builtin(number, args)
	case number == nativeCreate:
		return m.create(arg(args, 0))
	case number < nativeHasOwnProperty:
		return m.objectNative(number, args)
	case number >= nativeCharCodeAt && number <= nativeIndexOf:
		return m.textNative(number, this, args)
	case number >= nativeFloor && number <= nativeImul:
		return word.Number(m.mathNative(number, args))
	}
	return m.method(number, this, args)
}

// builtin does one that has a name of its own.
func (m *Machine) builtin(number int, args []api.Word) api.Word {
	x := arg(args, 0)
	switch number {
	case api.BuiltinObject:
		if m.isObject(x) {
			return x
		}
		return m.plain()
	case api.BuiltinFunction:
		m.fail(api.BuiltinTypeError, "Function")
	case api.BuiltinArray:
		return m.array()
	case api.BuiltinBoolean:
		return word.Bool(m.truthy(x))
	case api.BuiltinError, api.BuiltinTypeError, api.BuiltinRangeError, api.BuiltinReferenceError:
		if x != word.Undefined {
			x = m.text(m.shown(x))
		}
		return m.newError(number, x)
	case api.BuiltinPrint:
		m.print(args)
	}
	return word.Undefined
}

func (m *Machine) print(args []api.Word) {
	if len(m.log) >= api.MaxLog {
		panic(noRoom{})
	}
	parts := make([]string, len(args))
	for i, w := range args {
		parts[i] = m.shown(w)
	}
	m.log = append(m.log, strings.Join(parts, " "))
}

// method does those of prototypes that are no texts' alone.
func (m *Machine) method(number int, this api.Word, args []api.Word) api.Word {
	switch number {
	case nativeHasOwnProperty:
		return word.Bool(m.hasOwn(this, arg(args, 0)))
	case nativeObjectText:
		return m.text("[object Object]")
	case nativeFunctionText:
		return m.text("function")
	case nativeShown:
		return m.text(m.shown(this))
	case nativeValueOf, nativeIterator:
		return this
	case nativeIsArray:
		return word.Bool(m.isA(arg(args, 0), api.KindArray))
	case nativePush:
		m.openArray(this)
		for _, w := range args {
			m.push(this, w)
		}
		return word.Int(int32(m.heap.Len(this)))
	case nativePop:
		m.openArray(this)
		last := m.heap.Len(this) - 1
		w, _ := m.heap.Elem(this, last)
		m.heap.SetLen(this, last)
		return w
	}
	return word.Undefined
}

func (m *Machine) openArray(o api.Word) {
	if !m.isA(o, api.KindArray) || !m.heap.Open(o) {
		m.fail(api.BuiltinTypeError, "array")
	}
}

// textNative does those of texts that ask that this is one.
func (m *Machine) textNative(number int, this api.Word, args []api.Word) api.Word {
	s, ok := m.heap.TextOf(this)
	if !ok {
		m.fail(api.BuiltinTypeError, "text")
	}
	switch number {
	case nativeCharCodeAt:
		n, ok := soft.Whole(soft.Add(m.towards0(arg(args, 0)), 0)) // 0 makes -0 a 0
		if !ok || n < 0 || n >= int64(len(s)) {
			return word.Number(none)
		}
		return word.Int(int32(s[n]))
	case nativeSlice:
		from, to := m.cut(arg(args, 0), 0, len(s)), m.cut(arg(args, 1), len(s), len(s))
		return m.text(s[min(from, to):to])
	default:
		return word.Int(int32(strings.Index(s, m.written(arg(args, 0)))))
	}
}

// towards0 is a number without its fraction; 0, if it is none.
func (m *Machine) towards0(w api.Word) uint64 {
	if x := m.number(w); !soft.IsNaN(x) {
		return soft.Trunc(x)
	}
	return 0
}

// cut is where a text of that length is cut: from its end, if below 0.
func (m *Machine) cut(w api.Word, lacking, length int) int {
	if w == word.Undefined || m.isObject(w) {
		return lacking
	}
	x, end := m.towards0(w), soft.FromInt(int64(length))
	if soft.Less(x, 0) {
		x = soft.Add(x, end)
	}
	switch {
	case soft.Less(x, 0):
		return 0
	case soft.Less(end, x):
		return length
	}
	n, _ := soft.Whole(x) // of -0 that is 0 as well
	return int(n)
}

func (m *Machine) mathNative(number int, args []api.Word) uint64 {
	x := m.number(arg(args, 0))
	switch number {
	case nativeFloor:
		return soft.Floor(x)
	case nativeTrunc:
		return soft.Trunc(x)
	case nativeAbs:
		return x &^ minusZero
	case nativeImul:
		return soft.FromInt(int64(soft.ToInt32(x) * soft.ToInt32(m.number(arg(args, 1)))))
	case nativeMin:
		// The least one is the greatest one of all on the other side of 0.
		return soft.Neg(m.greatest(args, soft.Neg))
	default:
		return m.greatest(args, func(x uint64) uint64 { return x })
	}
}

// greatest is the greatest of what the arguments, as numbers, are turned to.
func (m *Machine) greatest(args []api.Word, turned func(x uint64) uint64) uint64 {
	most := soft.Neg(infinite)
	for _, w := range args {
		x := turned(m.number(w))
		switch {
		case soft.IsNaN(x):
			most = none // to which nothing that comes behind it is held
		case soft.Less(most, x), soft.Equal(most, x) && most == minusZero:
			most = x
		}
	}
	return most
}
