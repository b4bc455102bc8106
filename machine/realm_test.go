package machine_test

import (
	"slices"
	"strings"
	"testing"

	"brazier/api"
	"brazier/machine"
	"brazier/scope"
	"brazier/word"
)

// P17.1: what is there ahead of a program.
func TestRealm(t *testing.T) {
	each(t, []means{
		{`print(typeof Object, typeof Function, typeof Array, typeof String, typeof Number, typeof Boolean, typeof Math, typeof Error, typeof print, NaN, Infinity, Math, String, Object);`,
			"function function function function function function object function function NaN Infinity [object] [function] [function]", ""},
		{`for (const F of [Object, Function, Array, String, Number, Boolean, Error, TypeError, RangeError, ReferenceError]) {
			let p = Object.getOwnPropertyDescriptor(F, "prototype"); let c = Object.getOwnPropertyDescriptor(F.prototype, "constructor");
			print(p.writable, p.enumerable, p.configurable, c.value === F, c.writable, c.enumerable, c.configurable, Object.getPrototypeOf(F) === Function.prototype, typeof F.prototype, Array.isArray(F.prototype), F.prototype); }`,
			strings.Repeat("|false false false true true false true true object false [object]", 10)[1:], ""},
		{`print(Object.getPrototypeOf(Object.prototype)); for (const F of [Function, Array, String, Number, Boolean, Error]) { print(Object.getPrototypeOf(F.prototype) === Object.prototype); } for (const F of [TypeError, RangeError, ReferenceError]) { print(Object.getPrototypeOf(F.prototype) === Error.prototype, F.prototype.toString === Error.prototype.toString); } print(Object.getPrototypeOf(Math) === Object.prototype);`,
			"null|true|true|true|true|true|true|true true|true true|true true|true", ""},
		{`for (const F of [Error, TypeError, RangeError, ReferenceError]) { let p = F.prototype; print(p.name, p.message === "", p.hasOwnProperty("toString")); for (const k of ["name", "message"]) { let d = Object.getOwnPropertyDescriptor(p, k); print(d.writable, d.enumerable, d.configurable); } }`,
			"Error true true|true false true|true false true|TypeError true false|true false true|true false true|RangeError true false|true false true|true false true|ReferenceError true false|true false true|true false true", ""},
		{`for (const f of [print, Object.create, Math.floor, [].push, "".slice, print.call, [].valueOf]) { print(f.hasOwnProperty("prototype"), Object.keys(f).length, Object.getPrototypeOf(f) === Function.prototype); } print([]["$$iterator"].prototype, Error.prototype.toString.prototype.constructor === Error.prototype.toString);`,
			strings.Repeat("false 0 true|", 7) + "undefined true", ""},
		{`for (const k of ["$$prim", "$$string", "$$number", "$$values", "$$texts", "$$message"]) { print(k in Object); } print(Object.keys(Object).length, Object.keys(Object.prototype).length, Object.keys(Math).length);`, strings.Repeat("false|", 6) + "0 0 0", ""},
		{`let d = Object.getOwnPropertyDescriptor(Math, "floor"); print(d.writable, d.enumerable, d.configurable); Math.floor = 1; print(Math.floor, delete Math.floor, Math.floor); try { Object.prototype = 1; } catch (e) { print(e); } try { delete Array.prototype; } catch (e) { print(e); } Array.prototype.push = 5; print([].push);`, "true false true|1 true undefined|TypeError: write prototype|TypeError: delete|5", ""},
		{`Object.prototype.valueOf = function () { return 3; }; Object.prototype.toString = function () { return "t"; }; print({} * 2, [] + "", {}[{}]); String.prototype["$$iterator"] = function () { return [1]["$$iterator"](); }; for (const x of "xyz") { print(x); }`, "6 3 undefined|1", ""},
	})
}

// P17.1: Object, and what is at it.
func TestObjectNatives(t *testing.T) {
	const see = `function see(d) { if (d === undefined) { print(d); } else { let l = ""; for (const k of Object.keys(d)) { l += k + ":" + (typeof d[k] === "function" ? "f" : d[k]) + " "; } print(l); } } `
	each(t, []means{
		{`let o = {}; print(Object(o) === o, Object(print) === print, typeof Object(5), Object(5) === Object(5), new Object(o) === o, Object.getPrototypeOf(new Object("x")) === Object.prototype, Object() + "");`, "true true object false true true [object Object]", ""},
		{`let o = Object.create({x: 1}); print(o.x, Object.getPrototypeOf(Object.create(null)), Object.getPrototypeOf(Object.create(print)) === print, typeof Object.create(print), Array.isArray(Object.create([]))); for (const x of [undefined, 1, "a", true]) { try { Object.create(x); } catch (e) { print(e); } } try { Object.create(); } catch (e) { print(e); }`,
			"1 null true object false|TypeError: create|TypeError: create|TypeError: create|TypeError: create|TypeError: create", ""},
		{`for (const f of [Object.getPrototypeOf, Object.setPrototypeOf, Object.defineProperty, Object.getOwnPropertyDescriptor, Object.keys, Object.preventExtensions, Object.isExtensible]) { for (const x of [undefined, null, 1, "a", true]) { try { f(x, "x", {}); print("done"); } catch (e) { print(e); } } }`, strings.Repeat("|TypeError: Object", 35)[1:], ""},
		{`let o = {}; let p = {x: 1}; print(Object.setPrototypeOf(o, p) === o, o.x, Object.setPrototypeOf(o, p) === o, Object.getPrototypeOf(o) === p); for (const x of [undefined, 1, "a", o]) { try { Object.setPrototypeOf(o, x); } catch (e) { print(e); } } try { Object.setPrototypeOf(p, o); } catch (e) { print(e); } Object.setPrototypeOf(o, null); print(Object.getPrototypeOf(o)); try { Object.setPrototypeOf(o); } catch (e) { print(e); }`,
			"true 1 true true|TypeError: setPrototypeOf|TypeError: setPrototypeOf|TypeError: setPrototypeOf|TypeError: setPrototypeOf|TypeError: setPrototypeOf|null|TypeError: setPrototypeOf", ""},
		{see + `let o = {}; print(Object.defineProperty(o, "x", {}) === o); see(Object.getOwnPropertyDescriptor(o, "x")); Object.defineProperty(o, "y", {value: 1, writable: 1, enumerable: "", configurable: {}}); see(Object.getOwnPropertyDescriptor(o, "y")); Object.defineProperty(o, "z", {get: print, enumerable: true}); see(Object.getOwnPropertyDescriptor(o, "z")); see(Object.getOwnPropertyDescriptor(o, "q")); Object.defineProperty(o, "w", {set: print, get: undefined}); see(Object.getOwnPropertyDescriptor(o, "w"));`,
			"true|value:undefined writable:false enumerable:false configurable:false |value:1 writable:true enumerable:false configurable:true |get:f set:undefined enumerable:true configurable:false |undefined|get:undefined set:f enumerable:false configurable:false ", ""},
		{see + `let o = {}; for (const w of [undefined, null, 1, "a", {get value() { return 1; }}, {set get(v) { }}, {get: 1}, {set: {}}, {get: null}, {get: print, value: 1}, {set: print, writable: true}]) { try { Object.defineProperty(o, "x", w); print("done"); } catch (e) { print(e); } } print(Object.keys(o).length, "x" in o);`,
			strings.Repeat("TypeError: defineProperty|", 11) + "0 false", ""},
		{see + `let w = Object.create({value: 4, enumerable: true}); w.configurable = true; let o = {}; Object.defineProperty(o, "x", w); see(Object.getOwnPropertyDescriptor(o, "x")); Object.defineProperty(o, "x", {get: print}); see(Object.getOwnPropertyDescriptor(o, "x")); Object.defineProperty(o, "x", {writable: true}); see(Object.getOwnPropertyDescriptor(o, "x")); let f = function () {}; f.value = 9; Object.defineProperty(o, "x", f); print(o.x);`,
			"value:4 writable:false enumerable:true configurable:true |get:f set:undefined enumerable:true configurable:true |value:undefined writable:true enumerable:true configurable:true |9", ""},
		{`let o = {}; Object.defineProperty(o, "x", {value: 1}); for (const w of [{value: 1}, {value: 2}, {writable: true}, {enumerable: true}, {get: print}, {configurable: false}]) { try { Object.defineProperty(o, "x", w); print("done"); } catch (e) { print(e); } } Object.preventExtensions(o); try { Object.defineProperty(o, "y", {}); } catch (e) { print(e); }`, "done|TypeError: defineProperty|TypeError: defineProperty|TypeError: defineProperty|TypeError: defineProperty|done|TypeError: defineProperty", ""},
		{see + `let o = {}; Object.defineProperty(o, 5, {value: "five"}); Object.defineProperty(o, {toString: function () { return "no"; }}, {value: "u"}); Object.defineProperty(o, null, {value: "n"}); Object.defineProperty(o, -0, {value: "z"}); print(o["5"], o["undefined"], o["null"], o["0"], o.no, o.hasOwnProperty(5), o.hasOwnProperty({}), o.hasOwnProperty()); see(Object.getOwnPropertyDescriptor(o, {}));`, "five u n z undefined true true true|value:u writable:false enumerable:false configurable:false ", ""},
		{see + `let a = [1]; see(Object.getOwnPropertyDescriptor(a, "length")); see(Object.getOwnPropertyDescriptor(a, 0)); see(Object.getOwnPropertyDescriptor(a, 1)); Object.defineProperty(a, "length", {value: 3}); print(a.length); for (const w of [{value: -1}, {value: 1.5}, {value: 4097}, {writable: false}, {get: print}, {enumerable: true}]) { try { Object.defineProperty(a, "length", w); } catch (e) { print(e); } } try { Object.defineProperty(a, 0, {get: print}); } catch (e) { print(e); } try { Object.defineProperty(a, 1, {value: 1}); } catch (e) { print(e); } Object.defineProperty(a, 2, {value: 7, writable: true, enumerable: true, configurable: true}); print(a[2], a.length);`,
			"value:1 writable:true enumerable:false configurable:false |value:1 writable:true enumerable:true configurable:true |undefined|3" + strings.Repeat("|TypeError: defineProperty", 8) + "|7 3", ""},
		{`let k = Object.keys({b: 1, a: 2, 1: 3}); print(Array.isArray(k), k.length, k[0], k[1], k[2], typeof k[2]); let o = Object.create({z: 1}); Object.defineProperty(o, "h", {value: 1}); print(Object.keys(o).length, Object.keys(print).length); let a = []; a[3] = 1; a.x = 1; a[1] = 1; k = Object.keys(a); print(k.length, k[0], k[1], k[2]);`, "true 3 b a 1 string|0 0|3 1 3 x", ""},
		{`let a = []; let i = 0; while (i < 4096) { a[i] = 0; i++; } a.x = 1; let k = Object.keys(a); print(k.length, k[4095]); delete a[7]; k = Object.keys(a); print(k.length, k[4095]);`, "4096 4095|4096 x", ""},
		{`let o = {x: 1}; print(Object.isExtensible(o), Object.preventExtensions(o) === o, Object.isExtensible(o)); try { o.y = 1; } catch (e) { print(e); } o.x = 2; delete o.x; try { o.x = 1; } catch (e) { print(e); } try { Object.setPrototypeOf(o, {}); } catch (e) { print(e); } print(Object.setPrototypeOf(o, Object.prototype) === o); let a = [1, 2]; Object.preventExtensions(a); for (const f of [function () { a.push(1); }, function () { a.pop(); }, function () { a[2] = 1; }, function () { a[1] = 5; a.length = 7; }]) { try { f(); print(a.length, a[1]); } catch (e) { print(e); } }`,
			"true true false|TypeError: write y|TypeError: write x|TypeError: setPrototypeOf|true|TypeError: array|TypeError: array|TypeError: write 2|7 5", ""},
		{`let h = Object.prototype.hasOwnProperty; print(h.call({x: 1}, "x"), h.call({x: 1}, "toString"), h.call("abc", "length"), h.call(5, "x"), h.call(true), h.call([1], 0), h.call([1], "length"), h.call(print, "x")); for (const x of [undefined, null]) { try { h.call(x, "x"); } catch (e) { print(e); } } print(Object.prototype.toString.call(5), Object.prototype.valueOf.call(5), Object.prototype.valueOf.call(null), {}.valueOf() + "");`,
			"true false false false false true true false|TypeError: hasOwnProperty|TypeError: hasOwnProperty|[object Object] 5 null [object Object]", ""},
	})
}

// P17.1: Function, Array, errors, print.
func TestFunctionNatives(t *testing.T) {
	each(t, []means{
		{`for (const f of [function () { Function(); }, function () { Function.call(1, "x"); }, function () { new Function("x"); }]) { try { f(); } catch (e) { print(e); } }`, "TypeError: Function|TypeError: Function|TypeError: new", ""},
		{`function f(a, b) { return typeof this + this + a + b; } print(f.call(), f.call(1), f.call("t", 2), f.call(null, 2, 3, 4)); print(f.apply(), f.apply(1), f.apply("t", [2]), f.apply(null, [2, 3, 4]), f.apply(1, 2), f.apply(1, "ab"), f.apply(1, {length: 2, 0: 5}));`,
			"undefinedundefinedundefinedundefined number1undefinedundefined stringt2undefined objectnull23|undefinedundefinedundefinedundefined number1undefinedundefined stringt2undefined objectnull23 number1undefinedundefined number1undefinedundefined number1undefinedundefined", ""},
		{`let a = [1]; a[2] = 3; print.apply(null, a); print.call.call(print, 1, 2, 3); print.apply.call(print, 1, [2, 3]); print.call.apply(print, [1, 2, 3]); print.call.call.call.call(print.call, print, 4, 5); print(print.call(1, 2), print.apply(1, [2]));`, "1 undefined 3|2 3|2 3|2 3|5|2|2|undefined undefined", ""},
		{`for (const x of [undefined, 5, {}, "f"]) { try { print.call.call(x, 1); } catch (e) { print(e); } try { print.apply.call(x, 1, [2]); } catch (e) { print(e); } }`, strings.Repeat("|TypeError: call", 8)[1:], ""},
		{`print((function () {}).toString(), print.toString(), Function.prototype.toString.call(5), Object.prototype.toString.call(print));`, "function function function [object Object]", ""},
		{`let c = print.call; function* g() { yield this; } print(g.call(4).next().value, g.apply(5, []).next().value); function f() { throw "f"; } try { f.call(); } catch (e) { print(e); } try { c.call(f); } catch (e) { print(e); }`, "4 5|f|f", ""},
		{`let l = [print.call, print.call, print.call, print, 0, "x"]; print.call.apply(print.call, l); let o = {get x() { return 1; }}; Object.defineProperty(o, "y", {get: print.call, set: print}); try { o.y; } catch (e) { print(e); } o.y = "set"; Object.defineProperty(Function.prototype, "z", {get: print.call}); print((function () { return this; }).z);`, "x|TypeError: call|set|undefined", ""},
		// A row of applies that would never end.
		{`let a = print.apply; let l = [a]; l.push(l); try { a.apply(a, l); } catch (e) { print(e, e instanceof RangeError); } let k = [a, a]; let j = [a, k]; k[1] = j; try { a.apply(a, j); } catch (e) { print(e); } print(a.apply(a, [print, [1, [2, 3]]]));`, "RangeError: calls true|RangeError: calls|2 3|undefined", ""},
		{`print(Array().length, Array(5).length, Array(1, 2).length, new Array(3).length, Array.isArray(new Array()), Object.getPrototypeOf(Array()) === Array.prototype); print(Array.isArray([]), Array.isArray({}), Array.isArray(), Array.isArray("a"), Array.isArray(Array.prototype), Array.isArray(Object.create([])));`, "0 0 0 0 true true|true false false false false false", ""},
		{`let a = []; print(a.push(), a.push(1), a.push(2, 3), a.length, a.pop(), a.length, a.pop(), a.pop(), a.pop(), a.length); a.length = 2; print(a.pop(), a.length); a.x = 1; a.push(4); print(a[1], a.x);`, "0 1 3 3 3 2 2 1 undefined 0|undefined 1|4 1", ""},
		{`for (const x of [undefined, 5, "ab", {length: 1}, print, Array.prototype]) { for (const f of [[].push, [].pop]) { try { f.call(x, 1); } catch (e) { print(e); } } }`, strings.Repeat("|TypeError: array", 12)[1:], ""},
		{`let a = []; a.length = 4096; try { a.push(1); } catch (e) { print(e, a.length); } print(a.push(), a.pop(), a.length, a.push(5), a[4095]);`, "RangeError: elements 4096|4096 undefined 4095 4096 5", ""},
		{`let e = new Error("m"); let d = Object.getOwnPropertyDescriptor(e, "message"); print(e, d.value, d.writable, d.enumerable, d.configurable, Object.getPrototypeOf(e) === Error.prototype); print(Error("a"), TypeError("b"), RangeError(5), ReferenceError(null), new Error().hasOwnProperty("message"), Error(undefined).hasOwnProperty("message"), Error({}).message, Error(print).message, Error(e).message, Error("a", "b").message);`,
			"Error: m m true false true true|Error: a TypeError: b RangeError: 5 ReferenceError: null false false [object] [function] Error: m a", ""},
		{`print(new TypeError("x") instanceof Error, new TypeError("x") instanceof TypeError, new Error("x") instanceof TypeError, typeof new Error(), Object.keys(new Error("x")).length, new ReferenceError("a").toString(), Error.prototype.toString.call({name: "n", message: "m"}), Error.prototype.toString.call({})); try { Error.prototype.toString.call(null); } catch (e) { print(e); }`, "true true false object 0 ReferenceError: a n: m undefined: undefined|TypeError: read name", ""},
		{`print(); print(undefined, null, true, 1.5, -0, "", "a b", [1], {}, print, function () {}, new Error("e"), NaN); print("a\nb"); print(print(1));`, "|undefined null true 1.5 0  a b [object] [object] [function] [function] Error: e NaN|a\nb|1|undefined", ""},
	})
}

// P17.1: String, Number, Boolean, Math.
func TestTextAndNumberNatives(t *testing.T) {
	each(t, []means{
		{`print(String(), String(1.5), String(null), String("a"), String(true), String({}), String([]), String(print), String({toString: function () { return 5; }}), typeof String(5)); let s = new String("x"); print(typeof s, s, s instanceof String); try { String({toString: 1, valueOf: 1}); } catch (e) { print(e); } String.prototype.x = 1; print("".x, s.x);`,
			"undefined 1.5 null a true [object Object] [object Object] function 5 string|object [object] true|TypeError: no primitive|1 1", ""},
		{`print(Number(), Number(""), Number(" 12 "), Number("0x1f"), Number(true), Number(null), Number(undefined), Number({}), Number({valueOf: function () { return "7"; }}), Number("x"), typeof Number("5")); let n = new Number(5); print(typeof n, n instanceof Number);`, "NaN 0 12 31 1 0 NaN NaN 7 NaN number|object true", ""},
		{`print(Boolean(), Boolean(0), Boolean(-0), Boolean(NaN), Boolean(""), Boolean(null), Boolean("0"), Boolean({}), Boolean(1)); try { new Boolean(1); } catch (e) { print(e); }`, "false false false false false false true true true|TypeError: new", ""},
		{`let s = "abc"; print(s.charCodeAt(0), s.charCodeAt(2), s.charCodeAt(3), s.charCodeAt(-1), s.charCodeAt(), s.charCodeAt("1"), s.charCodeAt(1.9), s.charCodeAt(-0.9), s.charCodeAt(NaN), s.charCodeAt(Infinity), s.charCodeAt(-Infinity), s.charCodeAt({}), s.charCodeAt(true), s.charCodeAt(4294967296), "\xff".charCodeAt(0), "".charCodeAt(0));`,
			"97 99 NaN NaN 97 98 98 97 97 NaN NaN 97 98 NaN 255 NaN", ""},
		{`let s = "abcdef"; print(s.slice(), s.slice(2), s.slice(-2), s.slice(1, 3), s.slice(1, -1), s.slice(-3, -1), s.slice(3, 1), s.slice(0, 99), s.slice(-99, 2), s.slice(99), s.slice(1.9, "3.2"), s.slice(NaN, 2), s.slice(undefined, undefined), s.slice(null, 2), s.slice({}, 2), s.slice(2, {}), s.slice(2, "x"), s.slice(-0.5), s.slice(-Infinity, Infinity), s.slice(6), "".slice(0));`,
			"abcdef cdef ef bc bcde de  abcdef ab  bc ab abcdef ab ab cdef  abcdef abcdef  ", ""},
		{`let s = "abcabc"; print(s.indexOf("c"), s.indexOf("bc"), s.indexOf(""), s.indexOf("x"), s.indexOf(), "undefined".indexOf(), "xundefined".indexOf({}), "a1.5".indexOf(1.5), "null".indexOf(null), "".indexOf("a"), "".indexOf(""), s.indexOf("abcabcd"));`, "2 1 0 -1 -1 0 1 1 0 -1 0 -1", ""},
		{`let p = String.prototype; for (const f of [p.charCodeAt, p.slice, p.indexOf]) { for (const x of [undefined, null, 5, true, {}, p, new String("a")]) { try { f.call(x, 0); } catch (e) { print(e); } } }`, strings.Repeat("|TypeError: text", 21)[1:], ""},
		{`for (const p of [String.prototype, Number.prototype, Boolean.prototype]) { print(p.toString.call("a"), p.toString.call(5), p.toString.call(undefined), p.toString.call({}), p.toString.call(print), p.toString.call(new Error("e")), typeof p.toString.call(5), p.valueOf.call(null), p.valueOf.call(7)); } print((5).toString(), true.toString(), "x".toString(), (0.5).valueOf() + 1, "x".valueOf());`,
			strings.Repeat("a 5 undefined [object] [function] Error: e string null 7|", 3) + "5 true x 1.5 x", ""},
		{`print(Math.floor(1.5), Math.floor(-1.5), 1 / Math.floor(-0), Math.floor("2.5"), Math.floor(), Math.floor({}), Math.floor(Infinity), Math.floor(NaN), Math.floor(null)); print(Math.trunc(1.5), Math.trunc(-1.5), 1 / Math.trunc(-0.5), Math.trunc("x"), Math.trunc(true), Math.trunc(-Infinity)); print(Math.abs(-1.5), Math.abs(2), 1 / Math.abs(-0), Math.abs("-3"), Math.abs(NaN), Math.abs(-Infinity), Math.abs(-2147483648), Math.abs([]));`,
			"1 -2 -Infinity 2 NaN NaN Infinity NaN 0|1 -1 -Infinity NaN 1 -Infinity|1.5 2 Infinity 3 NaN Infinity 2147483648 NaN", ""},
		{`print(Math.min(), Math.max(), Math.min(3, 1, 2), Math.max(3, 1, 2), Math.min(1, NaN), Math.max(NaN, 1, Infinity), Math.min(1, {}), Math.max("5", true), Math.min(-Infinity, 1), Math.max(undefined)); print(1 / Math.min(0, -0), 1 / Math.min(-0, 0), 1 / Math.max(0, -0), 1 / Math.max(-0, 0), 1 / Math.max(-0, -0), 1 / Math.min(0, 0), Math.min(-0.5, -1.5), Math.max(-0.5, -1.5), Math.min(7), Math.max(7));`,
			"Infinity -Infinity 1 3 NaN NaN NaN 5 -Infinity NaN|-Infinity -Infinity Infinity Infinity -Infinity Infinity -1.5 -0.5 7 7", ""},
		{`print(Math.imul(3, 4), Math.imul(-5, 12), Math.imul(4294967295, 5), Math.imul(65536, 65536), Math.imul(2147483647, 2147483647), Math.imul(2.9, "3"), Math.imul(), Math.imul(5), Math.imul({}, 5), Math.imul(65537, 65535), Math.imul(123456789, 987654321));`, "12 -60 -5 0 1 6 0 0 0 -1 -67153019", ""},
	})
}

// P17.1: no more than that is there: each native once at each of its places, all of them objects of the kinds that the chapter names.
func TestRealmObjects(t *testing.T) {
	m := load(t, "")
	h := m.Heap()
	kinds := map[int]int{}
	for n := range h.Objects() {
		kind, _ := h.Kind(word.Object(uint32(n)))
		kinds[kind]++
	}
	// The prelude's: six functions, four of which are no generators and have a prototype, and a box.
	want := map[int]int{api.KindPlain: 12 + 4, api.KindNative: 9 + 36, api.KindFunction: 6, api.KindBox: 1}
	for _, kind := range []int{api.KindPlain, api.KindArray, api.KindFunction, api.KindNative, api.KindBox, api.KindGenerator, api.KindError} {
		if kinds[kind] != want[kind] {
			t.Errorf("kind %d: %d objects, not %d", kind, kinds[kind], want[kind])
		}
	}
	if got := propertiesOf(m, api.BuiltinMath); !slices.Equal(got, []string{"abs", "floor", "imul", "max", "min", "trunc"}) {
		t.Error(got)
	}
	if got := propertiesOf(m, api.BuiltinObject); !slices.Equal(got, []string{"create", "defineProperty", "getOwnPropertyDescriptor", "getPrototypeOf", "isExtensible", "keys", "preventExtensions", "prototype", "setPrototypeOf"}) {
		t.Error(got)
	}
	for b, name := range scope.Builtins() {
		if (b < api.BuiltinNaN) != isObjectAt(m, b) {
			t.Error(name)
		}
	}
}

// builtin is what a machine's program has by a builtin's name.
func builtinOf(m *machine.Machine, b int) api.Word {
	p := api.Program{Funcs: []api.Func{{Regs: 1, Code: []api.Instr{{Op: api.OpNative, B: b}, {Op: api.OpReturn}}}}}
	other, _ := machine.New(p)
	other.Step()
	return other.Reg(0)
}

func propertiesOf(m *machine.Machine, b int) []string {
	keys := m.Heap().Keys(builtinOf(m, b))
	slices.Sort(keys)
	return keys
}

func isObjectAt(m *machine.Machine, b int) bool {
	_, ok := m.Heap().Kind(builtinOf(m, b))
	return ok
}
