package emit_test

import "testing"

// means: programs, what they print (lines parted by |), and how they end (nothing: they are done).
type means struct{ s, lines, end string }

// show is what many of them begin with: it prints its tag, and tells its value.
const show = `function t(tag, v) { print(tag); return v; } `

func each(t *testing.T, l []means) {
	t.Helper()
	for _, m := range l {
		if m.end == "" {
			m.end = "done"
		}
		prints(t, m.s, m.lines, m.end)
	}
}

// P9.1: the chapter's examples, and those of the whole.
func TestExamples(t *testing.T) {
	each(t, []means{
		{`print(1 + 2 * 3, "a" + 1);`, "7 a1", ""},
		{`let f = []; for (const x of [1, 2]) { f.push(function () { return x; }); } print(f[0](), f[1]());`, "1 2", ""},
		{`function g() { try { return 1; } finally { print(2); } } print(g());`, "2|1", ""},
		{`function P(a) { this.a = a; } P.prototype.get = function () { return this.a; }; print(new P(4).get());`, "4", ""},
		{`let o = Object.create({x: 1}); print(o.x); Object.setPrototypeOf(o, {x: 2}); print(o.x);`, "1|2", ""},
		{`function* g(n) { let i = 0; while (i < n) { yield i; i++; } } for (const x of g(2)) { print(x); }`, "0|1", ""},
		{`try { null.x; } catch (e) { print(e); }`, "TypeError: read x", ""},
		{`let n = 2147483647; n++; print(n, n | 0, 1 / -0, 0.1 + 0.2);`, "2147483648 -2147483648 -Infinity 0.30000000000000004", ""},
		{`let o = {valueOf: function () { return 4; }}; print(o + 1, o == 4, o > 3);`, "5 true true", ""},
		{`print(x); let x = 1;`, "", "thrown ReferenceError: x"},
		{``, "", ""},
	})
}

// P9.1: what an expression is.
func TestValues(t *testing.T) {
	each(t, []means{
		{`print(1, 2.5, "x", true, false, null, undefined, this);`, "1 2.5 x true false null undefined undefined", ""},
		{`print(Object, Math, print, NaN, Infinity);`, "[function] [object] [function] NaN Infinity", ""},
		{`let NaN = 1; let print2 = print; { let print = 3; print2(NaN, print); }`, "1 3", ""},
		{`let a = [1, [2, 3], "x"]; print(a.length, a[1][1], a[2], [].length);`, "3 3 x 0", ""},
		{`let o = {a: 1, "b c": 2, 3: 4, ["d" + 1]: 5}; print(o.a, o["b c"], o[3], o.d1, o.e);`, "1 2 4 5 undefined", ""},
		{`let o = {a: 1, a: 2, get b() { return this.a; }, set b(v) { this.a = v; }}; o.b = 7; print(o.a, o.b);`, "7 7", ""},
		{`print(function () { return this; }(), typeof function () { return 1; });`, "undefined function", ""},
		{`let o = {f: function () { return this === o; }}; print(o.f(), o["f"](), o["f" + ""]()); let f = o.f; print(f());`, "true true true|false", ""},
		{`function F(a, b) { this.s = a + b; } print(new F(1, 2).s, new F("x").s, new F instanceof F);`, "3 xundefined true", ""},
		{`let o = {a: 1, b: 2}; print(delete o.a, delete o["b"], delete o["c" + ""], o.a, o.b, delete 5);`, "true true true undefined undefined true", ""},
		{`print(void 1, typeof 1, typeof "", typeof null, typeof undefined, typeof true, typeof print, !0, !"a");`, "undefined number string object undefined boolean function true false", ""},
		{`print(-"3", +"3", ~"3", +true, -null, +undefined, - -1);`, "-3 3 -4 1 0 NaN 1", ""},
		{`print(7 + 2, 7 - 2, 7 * 2, 7 / 2, 7 % 4, 7 << 2, -7 >> 1, -7 >>> 28, 7 & 5, 8 | 5, 7 ^ 5);`, "9 5 14 3.5 3 28 -4 15 5 13 2", ""},
		{`print(1 < 2, 2 <= 1, 1 > 2, 2 >= 2, "a" < "b", 1 == "1", 1 != "1", 1 === "1", 1 !== "1");`, "true false false true true true false false true", ""},
		{`print("a" in {a: 1}, 1 in {a: 1}, 1 in {1: 1}, [] instanceof Array, 1 instanceof Array);`, "true false true true false", ""},
		{`print(0 && 1, 2 && 3, 0 || 1, 2 || 3, 1 ? 2 : 3, "" ? 2 : 3);`, "0 3 1 2 2 3", ""},
		{`let a = 5; print(a = 6, a, a += 2, a, a -= 1, a *= 3, a /= 2, a %= 4, a <<= 3, a >>= 1, a >>>= 1, a &= 5, a |= 8, a ^= 1);`, "6 6 8 8 7 21 10.5 2.5 16 8 4 4 12 13", ""},
		{`let a = "5"; print(a++, a, ++a, a--, --a); let b = "x"; print(b++, b);`, "5 6 7 7 5|NaN NaN", ""},
		{`let o = {a: "5"}; print(o.a++, o.a, ++o["a"], o.a--, --o["a" + ""], o.a += 2, o["a"] -= 1, o["a" + ""] *= 2);`, "5 6 7 7 5 7 6 12", ""},
		{`let a = 1; print(a + (a = 5), a + a++, a);`, "6 10 6", ""},
		{`let a = 1; function f() { a = 2; return 10; } print(a + f(), a); print(a * f(), a);`, "11 2|20 2", ""},
		{`let f = function () { return 1; }; print(f(f = 3), f);`, "1 3", ""},
	})
}

// P9.1: in which order things are done.
func TestOrder(t *testing.T) {
	each(t, []means{
		{show + `[t(1), t(2), t(3)];`, "1|2|3", ""},
		{show + `print(t(1, 5), t(2, 6), t(3, 7));`, "1|2|3|5 6 7", ""},
		{show + `t(1, {f: print}).f(t(2, 8)); t(3, {f: print})[t(4, "f")](t(5, 9));`, "1|2|8|3|4|5|9", ""},
		{show + `t(1, print)(t(2), t(3, 4)); t(4, t)(t(5));`, "1|2|3|undefined 4|4|5|undefined", ""},
		{show + `new (t(1, function (a) { print(a); }))(t(2, 5), t(3));`, "1|2|3|5", ""},
		{show + `let o = {[t(1, "a")]: t(2), b: t(3), get [t(4, "c")]() { return 1; }, [t(5, "d")]: t(6)};`, "1|2|3|4|5|6", ""},
		{show + `let k = {toString: function () { print("k"); return "a"; }}; let o = {[k]: t(1, 2)}; o[k]; o[k] = t(2); o[k] += t(3); o[k]++; delete o[k]; k in t(4, o); print(o.a);`, "k|1|k|k|2|k|3|k|k|4|k|undefined", ""},
		{show + `t(1, {})[t(2)] = t(3); t(4, {}).a = t(5); t(6, {})[t(7)] -= t(8); delete t(9, {})[t(10)]; t(11, {})[t(12)]++;`, "1|2|3|4|5|6|7|8|9|10|11|12", ""},
		{show + `t(1, 2) + t(2, 3) * t(3, 4); t(4) < t(5); t(6) == t(7); t(8) === t(9); t(10) in t(11, {}); t(12) instanceof t(13, t);`, "1|2|3|4|5|6|7|8|9|10|11|12|13", ""},
		{show + `function v(tag, x) { return {valueOf: function () { print(tag); return x; }}; } t(1, v("a", 2)) + t(2, v("b", 3)); v("c", 1) < v("d", 1); v("e", 4) == 4; 4 != v("f", 4); v("g") === 1; -v("h"); +v("i"); ~v("j"); let x = v("k", 1); x++; x = v("l", 1); x += v("m", 2); print(x);`, "1|2|a|b|c|d|e|f|h|i|j|k|l|m|3", ""},
		{show + `let a = 1; a += t(1, a = 5); print(a); let o = {get a() { print("get"); return 1; }, set a(v) { print("set", v); }}; o.a += t(2, 4); o.a = t(3, 6); o.a++;`, "1|6|get|2|set 5|3|set 6|get|set 2", ""},
		{show + `t(1, 0) && t(2); t(3, 1) && t(4); t(5, 0) || t(6); t(7, 1) || t(8); t(9, 1) ? t(10) : t(11); t(12, 0) ? t(13) : t(14);`, "1|3|4|5|6|7|9|10|12|14", ""},
		{show + `let o = null; try { o[t(1)] = t(2); } catch (e) { print(e); } try { o.x = t(3); } catch (e) { print(e); } try { o[t(4, "y")]; } catch (e) { print(e); } try { o.x(t(5)); } catch (e) { print(e); } try { o(t(6)); } catch (e) { print(e); }`,
			"1|2|TypeError: write undefined|3|TypeError: write x|4|TypeError: read y|TypeError: read x|6|TypeError: call", ""},
		{show + `let o = {}; try { o.f(t(1)); } catch (e) { print(e); } try { new o(t(2)); } catch (e) { print(e); } try { t(3) in t(4); } catch (e) { print(e); } try { delete t(5)[t(6)]; } catch (e) { print(e); }`,
			"1|TypeError: call|2|TypeError: new|3|4|TypeError: in|5|6|TypeError: delete", ""},
		{show + `let a = 1; try { a = t(1, null.x); } catch (e) { print(a, e); } try { a = 2 + null.y; } catch (e) { print(a, e); }`, "1 TypeError: read x|1 TypeError: read y", ""},
	})
}

// P9.1: which variable a name is, and when it is reached.
func TestVariables(t *testing.T) {
	each(t, []means{
		{`let a = 1; { let a = 2; print(a); { let a = 3; print(a); } print(a); } print(a);`, "2|3|2|1", ""},
		{`let a; print(a); a = 1; { a = 2; let b = a; print(b); } print(a); const c = 3; print(c);`, "undefined|2|2|3", ""},
		{`f(); function f() { print(1); } { f(); function f() { print(2); } } f();`, "1|2|1", ""},
		{`function f() { return g(); } function g() { return 5; } print(f()); g = function () { return 6; }; print(f());`, "5|6", ""},
		{`function f(a, b, c) { return a + "," + b + "," + c; } print(f(), f(1), f(1, 2, 3, 4));`, "undefined,undefined,undefined 1,undefined,undefined 1,2,3", ""},
		{`function f(a) { a += 1; return function () { a += 10; return a; }; } let g = f(1); print(g(), g()); print(f(5)(), g());`, "12 22|16 32", ""},
		{`function f(a, b) { return function () { return b; }; } print(f(1, 2)(), f(1)());`, "2 undefined", ""},
		{`let f = function g(n) { return n ? n * g(n - 1) : 1; }; print(f(5)); let h = f; f = 0; print(h(4));`, "120|24", ""},
		{`let f = function g() { return function () { return g; }; }; print(f()() === f); let h = function k(k) { return k; }; print(h(1)); let i = function j() { let j = 2; return j; }; print(i());`, "true|1|2", ""},
		{`let a = 1; function f() { function g() { function h() { a += 1; return a; } return h(); } return g(); } print(f(), f(), a);`, "2 3 3", ""},
		{`let a = 1; function f(b) { return function (c) { return function (d) { a += 1; b += 1; c += 1; return a + "," + b + "," + c + "," + d; }; }; } let g = f(10)(20); print(g(5), g(6)); print(f(1)(2)(3));`, "2,11,21,5 3,12,22,6|4,2,3,3", ""},
		{`let l = []; let i = 0; while (i < 3) { let x = i; l.push(function () { x += 10; return x; }); i++; } print(l[0](), l[1](), l[2](), l[0]());`, "10 11 12 20", ""},
		{`let l = []; for (let i of [1, 2]) { l.push(function () { i += 1; return i; }); } print(l[0](), l[0](), l[1]());`, "2 3 3", ""},
		{`let l = []; for (const i of [1, 2]) { let j = i * 2; function f() { return i + j; } l.push(f); } print(l[0](), l[1](), l[0] === l[1]);`, "3 6 false", ""},
		{`let l = []; for (const x of "ab") try { throw x; } catch (e) { l.push(function () { return e; }); } print(l[0](), l[1]());`, "a b", ""},
		{`try { throw 1; } catch (e) { print(e); e = 2; print(e); { let e = 3; print(e); } } let e = 4; print(e);`, "1|2|3|4", ""},
		{`{ a; let a; }`, "", "thrown ReferenceError: a"},
		{`{ a = 1; let a; }`, "", "thrown ReferenceError: a"},
		{`let a = a;`, "", "thrown ReferenceError: a"},
		{`const a = 1 + a;`, "", "thrown ReferenceError: a"},
		{`typeof a; let a;`, "", "thrown ReferenceError: a"},
		{`a++; let a;`, "", "thrown ReferenceError: a"},
		{show + `try { a = t(1); } catch (e) { print(e); } try { a += t(2); } catch (e) { print(e); } let a = 5; print(a);`, "1|ReferenceError: a|ReferenceError: a|5", ""},
		{`function f() { return a; } try { f(); } catch (e) { print(e); } let a = 1; print(f());`, "ReferenceError: a|1", ""},
		{show + `function f() { a = t(1, 7); } try { f(); } catch (e) { print(e); } let a = 1; f(); print(a);`, "1|ReferenceError: a|1|7", ""},
		{`function f() { a += 1; return a++; } try { f(); } catch (e) { print(e); } let a = 1; print(f(), a);`, "ReferenceError: a|2 3", ""},
		{`let a = function () { return a; }; print(a() === a); let b = function (f) { return f(); }; try { let c = b(function () { return c; }); } catch (e) { print(e); }`, "true|ReferenceError: c", ""},
		{`function f() { return function () { return a; }; } try { f()(); } catch (e) { print(e); } const a = 2; print(f()());`, "ReferenceError: a|2", ""},
		{`let i = 0; while (i < 2) { try { f(); } catch (e) { print(e); } let x = i; f(); function f() { print(x); } i++; }`, "ReferenceError: x|0|ReferenceError: x|1", ""},
		{`let a = 1; { try { print(a); } catch (e) { print(e); } let a = 2; print(a); }`, "ReferenceError: a|2", ""},
		{`for (let a of [a2]) { } let a2;`, "", "thrown ReferenceError: a2"},
		{`let a = [1]; for (let a of a) { print(a); }`, "1", ""},
		{`let Object = 1; function f() { return Object; } print(f(), Object);`, "1 1", ""},
		{`function f() { return this; } let o = {f: f, g: function () { return f(); }}; print(f(), o.f() === o, o.g());`, "undefined true undefined", ""},
	})
}

// P9.1: statements.
func TestStatements(t *testing.T) {
	each(t, []means{
		{`if (1) print(1); if (0) print(2); if (0) print(3); else print(4); if ("a") { print(5); } else { print(6); }`, "1|4|5", ""},
		{`let i = 0; while (i < 3) { i++; if (i === 2) continue; print(i); } while (false) print(9);`, "1|3", ""},
		{`let i; for (i = 0; i < 3; i++) { if (i === 1) continue; print(i); } print(i); for (;;) { break; } for (; i > 1; ) i--; print(i);`, "0|2|3|1", ""},
		{`let i = 0; for (;; i++) { if (i > 2) break; print(i); } for (i = 5; ; ) { break; }`, "0|1|2", ""},
		{`a: for (;;) { for (;;) { break a; } } b: { print(1); break b; print(2); } c: d: { break c; } e: f: while (true) { break e; } print(3);`, "1|3", ""},
		{`let i = 0; a: while (i < 3) { i++; let j = 0; while (true) { j++; if (j > i) continue a; if (i > 2) break a; print(i, j); } }`, "1 1|2 1|2 2", ""},
		{`let n = 0; a: b: for (const x of [1, 2, 3]) { for (const y of [1, 2, 3]) { if (y > x) continue b; if (x > 2) break a; n += 1; } } print(n);`, "3", ""},
		{`let n = 0; a: for (n = 0; n < 5; n++) { for (;;) { if (n < 3) continue a; break; } break; } print(n);`, "3", ""},
		{`a: if (true) { print(1); if (true) break a; print(2); } a: print(3); a: try { break a; } finally { print(4); } a: ;`, "1|3|4", ""},
		{`let r = 0; while (true) { a: { r++; if (r < 3) break a; break; } } print(r); for (const x of [1, 2]) { a: { if (x === 1) continue; } print(x); }`, "3|2", ""},
		{`function f(x) { if (x) return 1; } function g() { return; } function h() { } print(f(1), f(0), g(), h());`, "1 undefined undefined undefined", ""},
		{`function f() { while (true) { for (const x of [1, 2, 3]) { if (x === 2) return x; } } } print(f());`, "2", ""},
		{`throw 1;`, "", "thrown 1"},
		{`print(1); throw new Error("x"); print(2);`, "1", "thrown Error: x"},
		{`; ; { } print(1); { ; } "x"; 1; function f() { "y"; }`, "1", ""},
	})
}

// P9.1: for of.
func TestForOf(t *testing.T) {
	each(t, []means{
		{`for (const x of [1, 2]) print(x); for (let x of "ab") { print(x); } for (let x of []) print(9);`, "1|2|a|b", ""},
		{`for (let x of null) print(1);`, "", "thrown TypeError: read $$iterator"},
		{`for (let x of 5) print(1);`, "", "thrown TypeError: call"},
		{`for (let x of {"$$iterator": function () { return 5; }}) print(1);`, "", "thrown TypeError: iterator"},
		{`for (let x of {"$$iterator": function () { return {next: function () { return 5; }}; }}) print(1);`, "", "thrown TypeError: iterator"},
		{`for (let x of {"$$iterator": function () { return {}; }}) print(1);`, "", "thrown TypeError: call"},
		{show + `let n = 0; let o = {get "$$iterator"() { print("get"); return function (a) { print(this === o, a); return {get next() { print("next"); return function (b) { print("call", b); n += 1; return {get done() { print("done"); return n > 2 ? "x" : 0; }, get value() { print("value"); return n; }}; }; }}; }; }}; for (const x of t("e", o)) { print(x); }`,
			"e|get|true undefined|next|call undefined|done|value|1|call undefined|done|value|2|call undefined|done", ""},
		{`let i = {n: 0, next: function () { print(this === i); this.n += 1; i.next = null; return {done: this.n > 2}; }, "return": function () { print("never"); }}; for (let x of {"$$iterator": function () { return i; }}) print(x);`, "true|undefined|true|undefined|true", ""},
		{`let g = function* () { try { yield 1; yield 2; } finally { print("never"); } }(); for (const x of g) { print(x); break; } for (const x of g) { print(x); break; }`, "1|2", ""},
		{`function* g() { let r = yield 1; print(r); } for (const x of g()) { print(x); x; }`, "1|undefined", ""},
		{`for (let x of [1, 2]) { x += 1; print(x); } for (const x of [[1, 2], [3]]) for (const y of x) print(y);`, "2|3|1|2|3", ""},
		{`for (const x of [1, 2, 3]) { if (x === 1) continue; print(x); if (x === 2) break; }`, "2", ""},
	})
}

// P9.1: try, and how its finally is gone through.
func TestTry(t *testing.T) {
	each(t, []means{
		{`try { print(1); } catch (e) { print(2); } print(3);`, "1|3", ""},
		{`try { print(1); throw 5; print(2); } catch (e) { print(e); } print(3);`, "1|5|3", ""},
		{`try { print(1); } finally { print(2); } print(3);`, "1|2|3", ""},
		{`try { throw 1; } finally { print(2); }`, "2", "thrown 1"},
		{`try { throw 1; } catch (e) { throw e + 1; } finally { print(3); }`, "3", "thrown 2"},
		{`try { try { throw 1; } finally { throw 2; } } catch (e) { print(e); }`, "2", ""},
		{`try { try { throw 1; } catch (e) { print(e); throw 3; } finally { print(2); } } catch (e) { print(e); }`, "1|2|3", ""},
		{`try { } catch (e) { print(1); } try { } finally { print(2); } try { } catch (e) { print(3); } finally { print(4); }`, "2|4", ""},
		{`function f() { try { return 1; } finally { return 2; } } print(f());`, "2", ""},
		{`function f() { try { throw 1; } finally { return 2; } } print(f());`, "2", ""},
		{`function f() { try { throw 1; } catch (e) { return e; } finally { print("f"); } } print(f());`, "f|1", ""},
		{`function f() { let a = 1; try { return a; } finally { a = 2; print(a); } } print(f());`, "2|1", ""},
		{`function f() { try { try { return 1; } finally { print("a"); } } finally { print("b"); } } print(f());`, "a|b|1", ""},
		{`function f() { try { try { return 1; } finally { throw 2; } } catch (e) { print(e); } return 3; } print(f());`, "2|3", ""},
		{`function f() { for (const x of [1, 2, 3]) { try { if (x === 1) continue; if (x === 2) return x; } finally { print("f", x); } print("on", x); } } print(f());`, "f 1|f 2|2", ""},
		{`a: for (const x of [1, 2]) { for (const y of [1, 2]) { try { if (x === 1) continue a; break a; } finally { print(x, y); } } }`, "1 1|2 1", ""},
		{`while (true) { try { break; } finally { print(1); } } print(2);`, "1|2", ""},
		{`let n = 0; while (n < 5) { try { n++; throw 1; } catch (e) { continue; } finally { if (n > 2) break; print(n); } } print("n", n);`, "1|2|n 3", ""},
		{`a: { try { break a; } finally { print(1); } print(2); } print(3);`, "1|3", ""},
		{`function f() { a: { try { return 1; } finally { break a; } } return 2; } print(f());`, "2", ""},
		{`function f() { a: try { throw 1; } finally { break a; } return 2; } print(f());`, "2", ""},
		{`a: b: c: for (const i of [0, 1, 2, 3, 4]) { for (;;) { try { if (i === 0) continue a; if (i === 1) break; if (i === 2) continue b; if (i === 3) continue c; break c; } finally { print(i); } } print("on", i); }`, "0|1|on 1|2|3|4", ""},
		{`function f(k) { a: { b: { try { try { if (k === 0) break a; if (k === 1) break b; if (k === 2) return "r"; if (k === 3) throw "t"; } finally { print("in"); } print("mid"); } finally { print("out"); } return "on"; } return "b"; } return "a"; } print(f(0), f(1), f(2), f(4)); f(3);`,
			"in|out|in|out|in|out|in|mid|out|a b r on|in|out", "thrown t"},
		{`function f() { try { return 1; } finally { try { throw 2; } catch (e) { print(e); } finally { print(3); } } } print(f());`, "2|3|1", ""},
		{`function f() { try { throw 1; } finally { try { throw 2; } catch (e) { print(e); } } } f();`, "2", "thrown 1"},
		{`function f() { try { return 1; } finally { for (const x of [1, 2]) { try { continue; } finally { print(x); } } } } print(f());`, "1|2|1", ""},
		{`for (const x of [1, 2, 3]) { try { if (x === 2) { try { throw 1; } finally { continue; } } print(x); } finally { print("f", x); } }`, "1|f 1|f 2|3|f 3", ""},
		{`function f() { try { return g(); } finally { print(1); } } function g() { try { return print(2); } finally { print(3); } } f();`, "2|3|1", ""},
		{`function f(n) { try { if (n) return f(n - 1) + 1; return 0; } finally { print(n); } } print(f(2));`, "0|1|2|2", ""},
		{`let f; try { let x = 1; f = function () { return x; }; throw 2; } catch (e) { let y = e; print(f() + y); } finally { let z = 3; print(f() + z); }`, "3|4", ""},
		{`function f() { let l = []; for (const x of [1, 2]) { try { let y = x; l.push(function () { return y; }); if (x === 2) return l; } finally { let z = x * 10; l.push(function () { return z; }); } } } let l = f(); print(l.length, l[0](), l[1](), l[2](), l[3]());`, "4 1 10 2 20", ""},
		{`try { null(); } catch (e) { print(e); } try { undefined.x = 1; } catch (e) { print(e); } try { throw undefined; } catch (e) { print(e); }`, "TypeError: call|TypeError: write x|undefined", ""},
	})
}

// P9.1: generators.
func TestGenerators(t *testing.T) {
	const tell = `function tell(r) { print(r.value, r.done); } `
	each(t, []means{
		{tell + `let g = function* (a) { print("in", a); let b = yield a; print(b); let c = yield; print(c); return 9; }(1); print("made"); tell(g.next(5)); tell(g.next(6)); tell(g.next(7)); tell(g.next(8));`,
			"made|in 1|1 false|6|undefined false|7|9 true|undefined true", ""},
		{tell + `let g = function* () { try { yield 1; } catch (e) { print("caught", e); yield 2; } finally { print("f"); } }(); tell(g.next()); tell(g.throw(5)); tell(g.next());`, "1 false|caught 5|2 false|f|undefined true", ""},
		{tell + `let g = function* () { try { yield 1; } catch (e) { print("never"); } finally { print("f"); } print("never"); }(); tell(g.next()); tell(g.return(5)); tell(g.next());`, "1 false|f|5 true|undefined true", ""},
		{tell + `let g = function* () { try { yield 1; } finally { yield 2; print("f"); } }(); tell(g.next()); tell(g.return(5)); tell(g.next());`, "1 false|2 false|f|5 true", ""},
		{tell + `let g = function* () { try { yield 1; } finally { return 3; } }(); tell(g.next()); tell(g.return(5));`, "1 false|3 true", ""},
		{tell + `let g = function* () { for (;;) { try { yield 1; } finally { break; } } yield 4; }(); tell(g.next()); tell(g.return(5)); tell(g.next());`, "1 false|4 false|undefined true", ""},
		{tell + `let g = function* () { yield 1; }(); tell(g.next()); g.throw(7);`, "1 false", "thrown 7"},
		{tell + `let g = function* () { yield 1; }(); tell(g.return(3)); tell(g.next());`, "3 true|undefined true", ""},
		{tell + `function* g() { print(yield 1, yield 2, (yield 3) + (yield 4)); } let i = g(); tell(i.next()); tell(i.next("a")); tell(i.next("b")); tell(i.next("c")); tell(i.next("d"));`, "1 false|2 false|3 false|4 false|a b cd|undefined true", ""},
		{tell + `let g = function* () { return yield yield 1; }(); tell(g.next()); tell(g.next(2)); tell(g.next(3));`, "1 false|2 false|3 true", ""},
		{tell + `let o = {g: function* () { yield this === o; }}; tell(o.g().next()); let a = 1; let h = function* k(n) { a += n; yield a; if (n < 3) { for (const x of k(n + 1)) yield x; } }; for (const x of h(1)) print(x);`, "true false|2|4|7", ""},
		{tell + `function* g() { let l = []; while (true) { let x = yield l; l.push(function () { return x; }); } } let i = g(); i.next(); i.next(1); let l = i.next(2).value; print(l[0](), l[1]());`, "1 2", ""},
		{tell + `String.prototype["0"] = 1; String.prototype["2"] = 1; let g = function* () { try { yield 1; } catch (e) { print(e); } yield 2; }(); g.next(); g.throw("t"); tell(g.return("r"));`, "t|r true", ""},
	})
}
