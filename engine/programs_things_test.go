package engine_test

import (
	"testing"

	"brazier/api"
)

// P19.4: objects, their prototypes, getters and setters.
func TestObjects(t *testing.T) {
	each(t, []program{
		{text: `let o = {n: 1, get twice() { return this.n * 2; }, set twice(v) { this.n = v / 2; }}; o.twice = 10; print(o.n, o.twice); o.twice += 4; print(o.n++, o.twice--, o.n);`, lines: "5 10|7 16 7.5"},
		{text: `let o = {get a() { return 1; }, set b(v) { print("b", v); }}; print(o.a, o.b); o.b = 2; try { o.a = 2; } catch (e) { print(e); } print(o.a);`, lines: "1 undefined|b 2|TypeError: write a|1"},
		{text: `function P() {} Object.defineProperty(P.prototype, "x", {get: function () { return this.y; }, set: function (v) { this.y = v; }}); let l = []; for (const n of [1, 2, 3]) { let p = new P(); p.x = n; l.push(p); } let s = 0; for (const p of l) { s += p.x; } print(s, Object.keys(l[0]).length, l[2].hasOwnProperty("x"), "x" in l[2]);`, lines: "6 1 false true"},
		{text: `function A() { this.a = 1; } A.prototype.f = function () { return "A" + this.a; }; function B() { A.call(this); this.b = 2; } B.prototype = Object.create(A.prototype); B.prototype.g = function () { return this.f() + this.b; }; let b = new B(); print(b.g(), b instanceof A, b instanceof B, new A() instanceof B, b.constructor === A);`, lines: "A12 true true false true"},
		{text: `function f(o) { return o.x; } let p = {x: 1}; let l = [{x: 2}, {y: 0, x: 3}, Object.create(p), Object.create(Object.create(p)), [], "t", 5, true]; let n = 0; while (n < 3) { let s = ""; for (const o of l) { s += f(o) + ","; } print(s); p.x += 10; if (n === 1) { delete p.x; Object.prototype.x = 99; } n++; }`, lines: "2,3,1,1,undefined,undefined,undefined,undefined,|2,3,11,11,undefined,undefined,undefined,undefined,|2,3,99,99,99,99,99,99,"},
		{text: `let o = {a: 1, b: 2, c: 3}; delete o.b; o.b = 4; o["d"] = 5; Object.defineProperty(o, "h", {value: 6}); let s = ""; for (const k of Object.keys(o)) { s += k + o[k]; } print(s, o.h); try { delete o.h; } catch (e) { print(e); } try { o.h = 7; } catch (e) { print(e); } print(delete o.none, o.h);`, lines: "a1c3b4d5 6|TypeError: delete|TypeError: write h|true 6"},
		{text: `let o = Object.preventExtensions({a: 1}); o.a = 2; try { o.b = 1; } catch (e) { print(e); } delete o.a; try { o.a = 1; } catch (e) { print(e); } print(Object.isExtensible(o), Object.isExtensible({}), Object.keys(o).length);`, lines: "TypeError: write b|TypeError: write a|false true 0"},
		{text: `let n = 0; function F() { this.x = 1; } let s = ""; while (n < 6) { if (n === 3) { Object.defineProperty(F.prototype, "x", {set: function (v) { s += "set"; }, configurable: true}); } if (n === 4) { delete F.prototype.x; } let o = new F(); s += o.x; n++; } print(s);`, lines: "111setundefined11"},
		{text: `let o = {a: 1, a: 2, get a() { return 3; }}; print(o.a); let q = {set a(v) { this.b = v; }, a: 1}; q.a = 9; print(q.a, q.b, {"x y": 1}["x y"], {1: 2}[1], {1.5: 3}["1.5"]);`, lines: "3|9 undefined 1 2 3"},
		{text: `let d = Object.getOwnPropertyDescriptor({get a() { return 1; }}, "a"); print(typeof d.get, d.set, d.enumerable, d.configurable, "value" in d); let l = Object.keys(Object.getOwnPropertyDescriptor([7], "0")); print(l[0], l[1], l[2], l[3], Object.getOwnPropertyDescriptor({}, "z"));`, lines: "function undefined true true false|value writable enumerable configurable undefined"},
		{text: `let a = {}; let b = Object.create(a); try { Object.setPrototypeOf(a, b); } catch (e) { print(e); } print(Object.getPrototypeOf(b) === a, Object.getPrototypeOf(Object.prototype)); try { Object.create(1); } catch (e) { print(e); } try { Object.defineProperty({}, "a", {get: 1}); } catch (e) { print(e); }`, lines: "TypeError: setPrototypeOf|true null|TypeError: create|TypeError: defineProperty"},
		{text: `function f() { return this; } print(typeof f(), typeof {f: f}.f(), f.call(3), f.apply(4, [1]), typeof new f()); function g(a, b) { return this + a + b; } print(g.call(1, 2, 3), g.apply(1, [2, 3, 4]), g.apply("x"));`, lines: "undefined object 3 4 object|6 6 xundefinedundefined"},
		{text: `let l = []; let n = 0; while (n < 30) { let o = {}; o["k" + n % 7] = n; o.v = n; l.push(o); n++; } let s = 0; for (const o of l) { s += o.v; o.v += o.k3 || 0; } for (const o of l) { s += o.v; } print(s);`, lines: "924"},
	})
}

// P19.4: errors that are thrown and caught.
func TestErrors(t *testing.T) {
	each(t, []program{
		{text: `function f(n) { if (n === 0) { throw new RangeError("deep"); } try { f(n - 1); } finally { print("out", n); } } try { f(3); } catch (e) { print(e, e.message, e instanceof RangeError, e instanceof Error, e instanceof TypeError); }`, lines: "out 1|out 2|out 3|RangeError: deep deep true true false"},
		{text: `for (const f of [function () { undefined.x; }, function () { null.x = 1; }, function () { 1(); }, function () { new 2(); }, function () { "a".x = 1; }, function () { "a" in 5; }, function () { 1 instanceof 2; }, function () { delete null.a; }, function () { later; }, function () { new Math.floor(1); }, function () { Function(); }]) { try { f(); } catch (e) { print(e); } } let later = 1;`,
			lines: "TypeError: read x|TypeError: write x|TypeError: call|TypeError: new|TypeError: write x|TypeError: in|TypeError: instanceof|TypeError: delete|ReferenceError: later|TypeError: new|TypeError: Function"},
		{text: `print(1); throw "left"; print(2);`, lines: "1", end: api.EndThrown, left: "left"},
		{text: `throw new TypeError("of mine");`, end: api.EndThrown, left: "TypeError: of mine"},
		{text: `function f() { try { throw 1; } finally { print("f"); } } f();`, lines: "f", end: api.EndThrown, left: "1"},
		{text: `try { try { throw 1; } catch (e) { throw e + 1; } finally { print("f"); } } catch (e) { print(e); throw [e]; } finally { print("g"); }`, lines: "f|2|g", end: api.EndThrown, left: "[object]"},
		{text: `function f() { try { throw 1; } catch (e) { return e; } finally { return 2; } } function g() { try { return print("r"); } finally { throw 3; } } print(f()); try { g(); } catch (e) { print(e); }`, lines: "2|r|3"},
		{text: `function f(n) { return f(n + 1); } try { f(0); } catch (e) { print(e); } let deep = 0; function g() { deep++; g(); } try { g(); } catch (e) { print(deep); } try { g(); } finally { print(deep); }`, lines: "RangeError: calls|199|398", end: api.EndThrown, left: "RangeError: calls"},
		{text: `let s = "0123456789abcdef"; let n = 0; while (true) { s += s; n++; print(n); }`, lines: "1|2|3|4|5|6|7|8", end: api.EndMemory},
		{text: `let e = new Error("a"); e.name = "Own"; print(e, e + "", e.toString()); e.message = 5; print(e); delete e.message; delete e.name; print(e, new Error(), Error("x"), Object.keys(e).length);`, lines: "Own: a Own: a Own: a|Own: 5|Error:  Error:  Error: x 0"},
		{text: `let n = 0; for (const v of [1, "a", null, undefined1(), {}, new Error("e")]) { try { throw v; } catch (e) { n += e === v; } } print(n); function undefined1() {}`, lines: "6"},
		{text: `function risky(n) { if (n % 3 === 0) { throw n; } return n; } let s = 0; let c = 0; let n = 0; while (n < 60) { try { s += risky(n); } catch (e) { c += e; } n++; } print(s, c);`, lines: "1200 570"},
	})
}

// P19.4: texts.
func TestTexts(t *testing.T) {
	each(t, []program{
		{text: `let s = "abc"; print(s.length, s[0], s[2], s[3], s["1"], s["01"], s.slice(1), s.slice(-2, -1), s.slice(2, 1) === "", s.indexOf("c"), s.indexOf("d"), s.indexOf(""), s.charCodeAt(1), s.charCodeAt(3));`, lines: "3 a c undefined b undefined bc b true 2 -1 0 98 NaN"},
		{text: `let out = ""; for (const c of "hello") { out = c + out; } print(out, out < "p", "a" < "b", "a" < "B", "10" < "9", "10" < 9, "" < "a");`, lines: "olleh true true false true false true"},
		{text: `let n = 0; let s = ""; while (n < 20) { s += n + ","; n++; } print(s, s.length);`, lines: "0,1,2,3,4,5,6,7,8,9,10,11,12,13,14,15,16,17,18,19, 50"},
		{text: `print(String(1.5), String(null), String("x"), String({}), String([1]), (255).toString(), true.toString(), "a".toString()); try { print("a".slice.call(1)); } catch (e) { print(e); } print("a" + null + void 0 + true + -0 + 1e21 + 1e-7);`, lines: "1.5 null x [object Object] [object Object] 255 true a|TypeError: text|anullundefinedtrue01e+211e-7"},
		{text: `print("\n\t\"\\'" + 'q"'); print("a" === 'a', "a" !== "b", "a" == "a", "1" == 1, "" == 0, " 1 " == 1, "0x10" == 16, "x" == 0 / 0);`, lines: "\n\t\"\\'q\"|true true true true true true true false"},
		{text: `String.prototype.first = function () { return this[0] + typeof this; }; print("xyz".first()); Object.defineProperty(String.prototype, "last", {get: function () { return this[this.length - 1]; }}); print("xyz".last);`, lines: "xstring|z"},
	})
}

// P19.4: arrays.
func TestArrays(t *testing.T) {
	each(t, []program{
		{text: `let a = [3, 1, 2]; function sort(a) { let i; let j; for (i = 0; i < a.length; i++) { for (j = 0; j + 1 < a.length - i; j++) { if (a[j] > a[j + 1]) { let t = a[j]; a[j] = a[j + 1]; a[j + 1] = t; } } } return a; } let b = [5, 3, 9, 1, 7, 2, 8]; sort(b); let s = ""; for (const x of b) { s += x; } print(s, sort(a)[0], a.length);`, lines: "1235789 1 3"},
		{text: `let a = []; a[3] = "x"; print(a.length, a[0], 0 in a, 3 in a, a.hasOwnProperty("2"), Object.keys(a)[0]); a.length = 1; print(a.length, a[3]); a["2"] = 5; a["02"] = 6; print(a.length, a["02"], Object.keys(a).length); let s = ""; for (const v of a) { s += v + ","; } print(s);`, lines: "4 undefined false true false 3|1 undefined|3 6 2|undefined,undefined,5,"},
		{text: `let a = [1, 2]; print(a.push(3, 4), a.pop(), a.pop(), a.length, [].pop(), a.push()); delete a[0]; print(a[0], a.length, 0 in a); a[4096] = 1; print(a.length, a[4096]); try { a.length = 4097; } catch (e) { print(e); } try { a.length = "1"; } catch (e) { print(e); } a.length = 0; print(a[0]);`, lines: "4 4 3 2 undefined 2|undefined 2 false|2 1|TypeError: write length|TypeError: write length|undefined"},
		{text: `let a = []; let n = 0; while (n < 4096) { a.push(n); n++; } try { a.push(1); } catch (e) { print(e, a.length); } let s = 0; for (const x of a) { s += x; } print(s);`, lines: "RangeError: elements 4096|8386560"},
		{text: `let p = Object.getPrototypeOf([]); p[1] = "up"; let a = [0]; a[2] = 2; print(a[1], a.length, p.length, Array.isArray(a), Array.isArray({}), Array.isArray(p)); let b = Array(5); print(b.length); delete p[1]; print(a[1]);`, lines: "up 3 undefined true false false|0|undefined"},
		{text: `let m = []; let i = 0; while (i < 5) { let r = []; let j = 0; while (j < 5) { r.push(i * j); j++; } m.push(r); i++; } let s = 0; for (const r of m) { for (const x of r) { s += x; } } print(s, m[3][4], m[4][4]); m[1] = null; try { m[1][0]; } catch (e) { print(e); }`, lines: "100 12 16|TypeError: read 0"},
		{text: `let a = Object.preventExtensions([1]); for (const f of [function () { a.push(2); }, function () { a.pop(); }, function () { a[1] = 2; }, function () { [].push.call({}, 1); }]) { try { f(); } catch (e) { print(e); } } a[0] = 3; print(a[0]);`, lines: "TypeError: array|TypeError: array|TypeError: write 1|TypeError: array|3"},
	})
}

// P19.4: numbers, and what is made of other values.
func TestNumbers(t *testing.T) {
	each(t, []program{
		{text: `let n = 2147483640; let i = 0; while (i < 10) { n++; i++; } print(n, n | 0, n >>> 0, n >> 1, -n | 0, ~n, n << 1); let m = -2147483646; for (i = 0; i < 4; i++) { m -= 1; } print(m);`, lines: "2147483650 -2147483646 2147483650 -1073741823 2147483646 2147483645 4|-2147483650"},
		{text: `print(7 % 3, -7 % 3, 7 % -3, 1 / (-4 % 2), 5 % 0, 0.5 % 0.2, 1 / 3, 100 / 10, 1e300 * 1e300, -1e300 * 1e300, 0 / 0, 65536 * 65536, 0 * -1, 1 / (0 * -1));`, lines: "1 -1 1 -Infinity NaN 0.09999999999999998 0.3333333333333333 10 Infinity -Infinity NaN 4294967296 0 -Infinity"},
		{text: `function add(a, b) { return a + b; } let s = 0; let n = 0; while (n < 20) { s = add(s, n); n++; } print(s, add(0.5, s), add("a", s), add(s, null), add(true, true), add({}, 1), add([], "x"), add(2147483647, 1), add(1, 2));`, lines: "190 190.5 a190 190 2 [object Object]1 [object Object]x 2147483648 3"},
		{text: `let o = {n: 0, valueOf: function () { this.n++; return this.n; }, toString: function () { return "t"; }}; print(o + 1, o * 2, o < 4, -o, o == 5, o + "", {t: 1}[o], o | 0, o++); print(o);`, lines: "2 4 true -4 true 6 1 7 8|9"},
		{text: `let bad = {valueOf: function () { return {}; }, toString: function () { return {}; }}; try { bad + 1; } catch (e) { print(e); } let thrower = {valueOf: function () { throw "v"; }}; try { 1 - thrower; } catch (e) { print(e); } let t = {valueOf: 1, toString: function () { return "9"; }}; print(t * 2, t + 1, t == 9);`, lines: "TypeError: no primitive|v|18 91 true"},
		{text: `print(null == 0, null == false, true == 1, "1" == true, 1 === 1.0, 0 === -0, Infinity > 1e308, NaN === NaN, NaN != NaN, null >= 0, "b" > "a", +"1e3", +"", +"x", +true, -"5", +null, typeof null, typeof typeof 1);`, lines: "false false true true true true true false true true true 1000 0 NaN 1 -5 0 object string"},
		{text: `print(Math.floor(-1.5), Math.trunc(-1.5), Math.abs(-3), Math.min(), Math.max(1, "3", 2), Math.imul(65537, 65537), Number("0x1f"), Number("x"), Boolean(""), Boolean("0"), !0, !!NaN, void 1, 1 && 2, 0 || "z", null && 1);`, lines: "-2 -1 3 Infinity 3 131073 31 NaN false true true false undefined 2 z null"},
		{text: `let a = 1; a += 2; a *= 5; a -= 3; a /= 4; a %= 2; a <<= 4; a |= 3; a ^= 1; a &= 18; a >>= 1; a >>>= 0; print(a, a++ + ++a, a-- - --a, a); let l = [1, 2]; let i = 0; l[i++] += 10; l[i]++; print(l[0], l[1], i);`, lines: "9 20 2 9|11 3 1"},
		{text: `function pure(n) { let h = 0; let i = 0; while (i < n) { h = h * 31 + i | 0; h ^= h >>> 7; i++; } return h; } print(pure(0), pure(1), pure(50) === pure(50), pure(2));`, lines: "0 0 true 1"},
	})
}
