package machine_test

import "testing"

// P17.9: the chapter's examples, and those of the whole.
func TestExamples(t *testing.T) {
	each(t, []means{
		{`print(typeof null, [1, 2].length, {} + "");`, "object 2 [object Object]", ""},
		{`try { null.x; } catch (e) { print(e); }`, "TypeError: read x", ""},
		{`throw new RangeError("q");`, "", "thrown RangeError: q"},
		{`print(1 + 2 * 3, "a" + 1);`, "7 a1", ""},
		{`let f = []; for (const x of [1, 2]) { f.push(function () { return x; }); } print(f[0](), f[1]());`, "1 2", ""},
		{`function P(a) { this.a = a; } P.prototype.get = function () { return this.a; }; print(new P(4).get());`, "4", ""},
		{`let o = Object.create({x: 1}); print(o.x); Object.setPrototypeOf(o, {x: 2}); print(o.x);`, "1|2", ""},
		{`function* g(n) { let i = 0; while (i < n) { yield i; i++; } } for (const x of g(2)) { print(x); }`, "0|1", ""},
		{`let n = 2147483647; n++; print(n, n | 0, 1 / -0, 0.1 + 0.2);`, "2147483648 -2147483648 -Infinity 0.30000000000000004", ""},
		{`let o = {valueOf: function () { return 4; }}; print(o + 1, o == 4, o > 3);`, "5 true true", ""},
		{`function g() { try { return 1; } finally { print(2); } } print(g());`, "2|1", ""},
		{`print(x); let x = 1;`, "", "thrown ReferenceError: x"},
		{``, "", ""},
	})
}

// P17.9: loops, functions that call themselves, closures.
func TestFunctions(t *testing.T) {
	each(t, []means{
		{`let n = 0; for (; n < 3; n++) { if (n === 1) { continue; } print(n); } while (true) { break; } print(n);`, "0|2|3", ""},
		{`function f(n) { return n < 2 ? n : f(n - 1) + f(n - 2); } print(f(15));`, "610", ""},
		{`let l = []; let i = 0; while (i < 3) { let x = i; l.push(function () { x += 10; return x; }); i++; } print(l[0](), l[1](), l[2](), l[0]());`, "10 11 12 20", ""},
		{`function f(a, b) { return a + "," + b; } print(f(), f(1), f(1, 2), f(1, 2, 3));`, "undefined,undefined 1,undefined 1,2 1,2", ""},
		{`let f = function g() { return g === f; }; print(f()); function h() { return this; } print(h(), h.call(3), h.call("x"), h.call(null), new h() instanceof h);`, "true|undefined 3 x null true", ""},
		{`let a = 1; function f() { a += 1; return function () { a += 10; return a; }; } print(f()(), f()(), a);`, "12 23 23", ""},
		{`let f = function () { return 1; }; print(f.prototype.constructor === f, Object.getPrototypeOf(f) === Function.prototype, Object.getPrototypeOf(f.prototype) === Object.prototype);
			let d = Object.getOwnPropertyDescriptor(f, "prototype"); print(d.writable, d.enumerable, d.configurable); d = Object.getOwnPropertyDescriptor(f.prototype, "constructor"); print(d.writable, d.enumerable, d.configurable);
			print((function* () { return 1; }).prototype, f.hasOwnProperty("prototype"));`, "true true true|true false false|true false true|undefined true", ""},
		{`function F() { this.a = 1; return 5; } function G() { this.a = 1; return {a: 2}; } print(new F().a, new G().a); F.prototype = {b: 3}; print(new F().b, new F() instanceof F); F.prototype = 4; print(Object.getPrototypeOf(new F()) === Object.prototype);`, "1 2|3 true|true", ""},
		{`function F() { this.a = 1; } Object.setPrototypeOf(F, null); print(new F().a); function G() { return print; } print(new G() === print); function H() { return null; } print(new H());`, "1|true|[object]", ""},
	})
}

// P17.9: objects, prototypes, getters and setters, arrays.
func TestObjects(t *testing.T) {
	each(t, []means{
		{`let o = {a: 1, "b c": 2, 3: 4, ["d" + 1]: 5, get e() { return this.a; }, set e(v) { this.a = v; }}; o.e = 7; print(o.a, o["b c"], o[3], o.d1, o.e, o.f);`, "7 2 4 5 7 undefined", ""},
		{`let o = {get x() { return 1; }}; try { o.x = 2; } catch (e) { print(e); } let p = {set x(v) { print("set", v); return 9; }}; print(p.x, p.x = 3);`, "TypeError: write x|set 3|undefined 3", ""},
		{`let o = {a: 1, get a() { return 2; }}; print(o.a); let p = {get a() { return 2; }, a: 1}; print(p.a); let q = {get a() { return 5; }, set a(v) { print(v); }, get b() { return 6; }}; q.a = q.a + q.b; print(Object.keys(q).length);`, "2|1|11|2", ""},
		{`let p = {get x() { return this.y; }, set x(v) { this.z = v; }}; let o = Object.create(p); o.y = 4; o.x = 6; print(o.x, o.z, p.z, o.hasOwnProperty("x"));`, "4 6 undefined false", ""},
		{`let p = {}; Object.defineProperty(p, "x", {value: 1}); let o = Object.create(p); try { o.x = 2; } catch (e) { print(e, o.x); }`, "TypeError: write x 1", ""},
		{`let o = {}; for (const k of ["b", "a", "2", "1"]) { o[k] = k; } delete o.a; o.a = 1; for (const k of Object.keys(o)) { print(k); }`, "b|2|1|a", ""},
		{`let a = [1, 2, 3]; a.length = 1; a[3] = 9; print(a.length, a[2], 2 in a, 3 in a, Object.keys(a).length); delete a[3]; print(a.length, a[3], a["length"], a["03"]); a.x = 1; for (const k of Object.keys(a)) { print(k); }`, "4 undefined false true 2|4 undefined 4 undefined|0|x", ""},
		{`let a = []; a[4095] = 1; a[4096] = 2; print(a.length, a[4096], a[4095]); try { a.push(1); } catch (e) { print(e); } a.length = 4095; print(a.push(7), a[4095]); try { a.length = 4097; } catch (e) { print(e, a.length); } try { delete a.length; } catch (e) { print(e); }`,
			"4096 2 1|RangeError: elements|4096 7|TypeError: write length 4096|TypeError: delete", ""},
		{`let s = "abc"; print(s.length, s[0], s[2], s[3], s["1"], s["01"], s.x, ""[0]); try { s.x = 1; } catch (e) { print(e); } try { s[0] = "x"; } catch (e) { print(e); } String.prototype.y = 5; print(s.y, s.length);`, "3 a c undefined b undefined undefined undefined|TypeError: write x|TypeError: write 0|5 3", ""},
		{`Number.prototype.f = function () { return typeof this; }; Boolean.prototype.f = function () { return this; }; print((5).f(), NaN.f(), true.f(), false.f()); Object.defineProperty(String.prototype, "g", {get: function () { return this; }}); print("q".g, ("" + 1).g);`, "number number true false|q 1", ""},
		{`for (const x of [undefined, null]) { try { x.a; } catch (e) { print(e); } try { x["b"] = 1; } catch (e) { print(e); } try { delete x.c; } catch (e) { print(e); } try { "d" in x; } catch (e) { print(e); } }`,
			"TypeError: read a|TypeError: write b|TypeError: delete|TypeError: in|TypeError: read a|TypeError: write b|TypeError: delete|TypeError: in", ""},
		{`let o = {}; Object.defineProperty(o, "x", {value: 1}); for (const f of [function () { delete o.x; }, function () { o.x = 2; }, function () { delete (5).x; }, function () { "x" in 5; }, function () { o instanceof o; }, function () { o instanceof print; }, function () { 5 instanceof 5; }]) { try { f(); } catch (e) { print(e); } }`,
			"TypeError: delete|TypeError: write x|TypeError: delete|TypeError: in|TypeError: instanceof|TypeError: instanceof|TypeError: instanceof", ""},
		{`function F() {} let f = new F(); print(f instanceof F, f instanceof Object, F instanceof Function, 5 instanceof F, F.prototype instanceof F, Object.create(f) instanceof F, [] instanceof Array, print instanceof Object); Object.defineProperty(F, "prototype", {value: 1}); try { f instanceof F; } catch (e) { print(e); }`,
			"true true true false false true true true|TypeError: instanceof", ""},
		{`function G() {} let o = {f: G}; Object.defineProperty(o, "prototype", {get: print}); Object.setPrototypeOf(print, o); try { o instanceof print; } catch (e) { print(e); }`, "TypeError: instanceof", ""},
		{`print(delete {}.x, delete [1][0], delete 5); let o = {x: 1}; print(delete o.x, "x" in o, "toString" in o, 0 in [1], 1 in [1], "length" in []);`, "true true true|true false true true false true", ""},
	})
}

// P17.9: conversions of objects, either way round, and of primitives.
func TestConversions(t *testing.T) {
	const v = `function v(tag, x, y) { return {valueOf: function () { print("v" + tag); return x; }, toString: function () { print("s" + tag); return y; }}; } `
	each(t, []means{
		{v + `print(v(1, 2, 3) + 1); print(v(2, 2, 3) * v(3, 4, 5)); print({a: 1}[v(4, 5, "a")]); print(v(5, 6, "b") + "c"); print(-v(6, "7", 8));`, "v1|3|v2|v3|8|s4|1|v5|6c|v6|-7", ""},
		{v + `print(v(1, {}, 3) + 1); print(String(v(2, 4, {}))); print(v(3, 1, 2) == 1, v(4, 1, 2) == v(5, 1, 2)); let o = v(6, 1, 2); print(o == o, null == v(7, 1, 2), undefined != v(8, 1, 2));`, "v1|s1|4|s2|v2|4|v3|true false|true false true", ""},
		{v + `for (const o of [v(1, {}, []), v(2, print, print), Object.create(null), {valueOf: 1, toString: 2}]) { try { o + 1; } catch (e) { print(e); } }`, "v1|s1|TypeError: no primitive|v2|s2|TypeError: no primitive|TypeError: no primitive|TypeError: no primitive", ""},
		{`let o = {get valueOf() { print("g"); return function () { return this === o ? 4 : 5; }; }}; print(o * 2);`, "g|g|8", ""},
		{v + `print("a" in v(1, 2, "a"), v(2, 2, "x") in {x: 1}); let o = {}; o[v(3, 1, "k")] = 2; print(o.k, delete o[v(4, 1, "k")], o.k); print({[v(5, 0, "q")]: 3}.q);`, "s2|false true|s3|s4|2 true undefined|s5|3", ""},
		{`print([] + "", [] == "[object Object]", print + "", (function () {}) + "", {} + {}, new Error("x") + "", new TypeError() + "", Object.create(Error.prototype) + "");`, "[object Object] true function function [object Object][object Object] Error: x TypeError:  Error: ", ""},
		{`print(+"", +" 12 ", +"0x1f", +"1_0", +null, +undefined, +true, +false, +"-Infinity", -"", +{}, +[]);`, "0 12 31 NaN 0 NaN 1 0 -Infinity 0 NaN NaN", ""},
		{`print(1 / -0, 1 / +"-0", 1 / (0 * -1), -0 === 0, Object.is, NaN === NaN, NaN !== NaN, NaN == NaN, NaN < 1, NaN >= 1, NaN <= NaN);`, "-Infinity -Infinity -Infinity true undefined false true false false false false", ""},
		{`print(Infinity, -Infinity, Infinity - Infinity, 1 / 0, 0 / 0, 5 % 0, Infinity % 2, 2 % Infinity, -4 % 2, 1 / (-4 % 2));`, "Infinity -Infinity NaN Infinity NaN NaN NaN 2 0 -Infinity", ""},
		{`print(null == undefined, null == 0, null == false, undefined == "", "1" == 1, 1 == "0x1", true == 1, true == "1", "a" == "a", "a" == "b", "" == 0, "x" == NaN, 0 == -0);`, "true false false false true true true true true false true false true", ""},
		{`print("a" === "a", 1 === "1", null === null, undefined === null, true === true, [] === [], 2147483648 === 2147483647 + 1, 0.5 === 1 / 2, print === print);`, "true false true false true false true true true", ""},
		{`print("a" < "b", "b" < "a", "a" < "a", "a" <= "a", "ab" > "a", "Z" < "a", "10" < "9", 10 < "9", "10" < 9, "" < "a", "a" >= "", "\xff" > "z", "a\x00" > "a", "\xe9" > "\x7f");`, "true false false true true true true false false true true true true true", ""},
		{`print(true + true, null + 1, undefined + 1, "a" + null + undefined + true + 1.5, 1 + 2 + "3", "3" * "4", "6" / 2, "7" - 2, "a" - 1, [] + 1, 1 + {});`, "2 1 NaN anullundefinedtrue1.5 33 12 3 5 NaN [object Object]1 1[object Object]", ""},
		{`print(1 << 31, 1 << 32, -1 >>> 0, -1 >>> 31, -9 >> 1, 5 & 3, 5 | 3, 5 ^ 3, ~5, ~"x", 4294967296 | 0, 2147483648 | 0, 1e21 | 0, NaN | 0, "3" << "1");`, "-2147483648 1 4294967295 1 -5 1 7 6 -6 -1 0 -2147483648 -559939584 0 6", ""},
		{`print(typeof undefined, typeof null, typeof true, typeof 1, typeof NaN, typeof "", typeof print, typeof function () {}, typeof {}, typeof [], typeof Math, typeof String, typeof Object.prototype, typeof Function.prototype, typeof (function* () {})());`,
			"undefined object boolean number number string function function object object object function object object object", ""},
		{`for (const x of [undefined, null, false, 0, -0, NaN, "", true, 1, -1, Infinity, "0", "x", {}, [], print]) { print(!x, x ? 1 : 2); }`, "true 2|true 2|true 2|true 2|true 2|true 2|true 2|false 1|false 1|false 1|false 1|false 1|false 1|false 1|false 1|false 1", ""},
	})
}
