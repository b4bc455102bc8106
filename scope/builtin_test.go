package scope_test

import (
	"slices"
	"strings"
	"testing"

	"brazier/api"
	"brazier/scope"
)

var builtins = []string{"Object", "Function", "Array", "String", "Number", "Boolean", "Math", "Error", "TypeError", "RangeError", "ReferenceError", "print", "NaN", "Infinity"}

// P7.1: the names, in order, and their numbers, which are api's.
func TestBuiltins(t *testing.T) {
	if got := scope.Builtins(); !slices.Equal(got, builtins) || len(got) != api.Builtins {
		t.Error(got)
	}
	for i, name := range builtins {
		if n, ok := scope.Builtin(name); n != i || !ok {
			t.Error(name, n, ok)
		}
	}
	for name, want := range map[string]int{
		"Object": api.BuiltinObject, "Function": api.BuiltinFunction, "Array": api.BuiltinArray, "String": api.BuiltinString,
		"Number": api.BuiltinNumber, "Boolean": api.BuiltinBoolean, "Math": api.BuiltinMath, "Error": api.BuiltinError,
		"TypeError": api.BuiltinTypeError, "RangeError": api.BuiltinRangeError, "ReferenceError": api.BuiltinReferenceError,
		"print": api.BuiltinPrint, "NaN": api.BuiltinNaN, "Infinity": api.BuiltinInfinity,
	} {
		if n, ok := scope.Builtin(name); n != want || !ok {
			t.Error(name, n, ok)
		}
	}
}

// P7.1: another name, however near to one of them.
func TestNoBuiltin(t *testing.T) {
	names := []string{"", " ", "x", "undefined", "this", "null", "Symbol", "JSON", "parseInt", "globalThis", "SyntaxError", "Date", "0", "\x00"}
	for _, name := range builtins {
		names = append(names, strings.ToLower(name)+"x", strings.ToUpper(name), name+" ", " "+name, name+"\x00", name+name, name[1:], name[:len(name)-1], "x"+name[1:])
	}
	for _, name := range names {
		if n, ok := scope.Builtin(name); n != 0 || ok {
			t.Errorf("%q: %d, %v", name, n, ok)
		}
	}
}

// P7.1, R5: what is written into the answer changes nothing.
func TestBuiltinsAreTheCallersOwn(t *testing.T) {
	l := scope.Builtins()
	for i := range l {
		l[i] = "x"
	}
	_ = append(l[:3], "y")
	if _, ok := scope.Builtin("x"); ok || !slices.Equal(scope.Builtins(), builtins) {
		t.Error(scope.Builtins())
	}
	if n, ok := scope.Builtin("print"); n != 11 || !ok {
		t.Error(n, ok)
	}
	uses(t, "print;", "0>-1")
}
