package machine_test

import (
	"strings"
	"testing"
)

// P17.9: errors of each kind, try with catch and finally.
func TestThrows(t *testing.T) {
	each(t, []means{
		{`for (const f of [function () { x; let x; }, function () { null.a; }, function () { undefined(); }, function () { new 5(); }, function () { for (const y of 5) {} }, function () { Object.create(1); }]) { try { f(); } catch (e) { print(e, e instanceof Error, e.name, e.message, e + ""); } }`,
			"ReferenceError: x true ReferenceError x ReferenceError: x|TypeError: read a true TypeError read a TypeError: read a|TypeError: call true TypeError call TypeError: call|TypeError: new true TypeError new TypeError: new|TypeError: call true TypeError call TypeError: call|TypeError: create true TypeError create TypeError: create", ""},
		{`function f() { throw 1; } function g() { try { f(); } finally { print("g"); } } function h() { try { g(); } finally { print("h"); } } try { h(); } catch (e) { print(e); } h();`, "g|h|1|g|h", "thrown 1"},
		{`function f(n) { if (n === 0) { throw new RangeError("deep"); } try { f(n - 1); } finally { print(n); } } try { f(3); } catch (e) { print(e); }`, "1|2|3|RangeError: deep", ""},
		{`try { try { throw 1; } catch (e) { throw e + 1; } finally { print("f"); } } catch (e) { print(e); }`, "f|2", ""},
		{`function f() { try { throw 1; } finally { return 2; } } print(f()); function g() { for (;;) { try { throw 1; } finally { break; } } return 3; } print(g());`, "2|3", ""},
		{`let o = {get x() { throw "get"; }, set x(v) { throw "set"; }, valueOf: function () { throw "value"; }}; for (const f of [function () { o.x; }, function () { o.x = 1; }, function () { o + 1; }, function () { o.x++; }]) { try { f(); } catch (e) { print(e); } }`, "get|set|value|get", ""},
		{`throw {};`, "", "thrown [object]"},
		{`throw print;`, "", "thrown [function]"},
		{`throw -0;`, "", "thrown 0"},
		{`throw undefined;`, "", "thrown undefined"},
		{`throw new TypeError();`, "", "thrown TypeError: "},
		{`let e = new Error("a"); e.name = {}; e.message = 5; throw e;`, "", "thrown : 5"},
		{`let e = new Error("a"); Object.defineProperty(e, "message", {get: print}); e.name = null; throw e;`, "", "thrown null: "},
		{`let e = new Error("a"); Object.defineProperty(e, "message", {set: print}); throw e;`, "", "thrown Error: "},
		{`let e = new Error("a"); Object.setPrototypeOf(e, null); print(e); delete e.message; throw e;`, ": a", "thrown : "},
		{`function f() { throw "f"; } function* g() { yield f(); } for (const x of g()) { }`, "", "thrown f"},
		{`let o = {x: 1}; try { o.y.z; } catch (e) { print(e); } o.y.z();`, "TypeError: read z", "thrown TypeError: read z"},
		{`try { print(1); throw 2; } catch (e) { print(e); try { throw 3; } catch (e) { print(e); } print(e); }`, "1|2|3|2", ""},
		{`print(1); try { f(); } catch (e) { print(e); } print(2); let f = 1; f();`, "1|ReferenceError: f|2", "thrown TypeError: call"},
		{`try { ({}).x(); } catch (e) { print(e); } try { "x"(); } catch (e) { print(e); } try { Math(); } catch (e) { print(e); } try { Function.prototype(); } catch (e) { print(e); }`, "TypeError: call|TypeError: call|TypeError: call|TypeError: call", ""},
		{`for (const f of [5, null, {}, Math, Function, Boolean, print, Math.floor, Object.create, function* () {}, Array.prototype.push]) { try { new f(); print("made"); } catch (e) { print(e); } }`, strings.Repeat("|TypeError: new", 11)[1:], ""},
	})
}

// P17.9: calls as deep as MaxFrames, and one deeper; the error is caught, and things go on.
func TestFrames(t *testing.T) {
	const down = `function down(n, f) { return n > 0 ? down(n - 1, f) : f(); } `
	each(t, []means{
		{`let r = 0; try { (function f(n) { r = n; f(n + 1); })(1); } catch (e) { print(e, r, e instanceof RangeError); } r = 0; try { (function f(n) { r = n; f(n + 1); })(1); } catch (e) { print(e, r); }`, "RangeError: calls 199 true|RangeError: calls 199", ""},
		{`function f(n) { return n === 0 ? 0 : 1 + f(n - 1); } print(f(198)); f(199);`, "198", "thrown RangeError: calls"},
		{down + `for (const n of [197, 198]) { try { print(down(n, function () { return "in"; })); } catch (e) { print(e); } }`, "in|RangeError: calls", ""},
		// Of the calls of natives none counts.
		{down + `for (const n of [196, 197, 198]) { try { print(down(n, function () { return print.call(null, n) + Math.floor(1); })); } catch (e) { print(e); } }`, "196|NaN|197|NaN|RangeError: calls", ""},
		{down + `let f = function () { return "in"; }; let g = function () { return f.call(); }; for (const n of [196, 197]) { try { print(down(n, g)); } catch (e) { print(e); } }`, "in|RangeError: calls", ""},
		// Of a conversion there are two: the prelude's, and the one that that calls.
		{down + `let o = {valueOf: function () { return 7; }}; for (const n of [195, 196, 197]) { try { print(down(n, function () { return o + 1; })); } catch (e) { print(e); } }`, "8|RangeError: calls|RangeError: calls", ""},
		{down + `for (const n of [196, 197]) { try { print(down(n, function () { return {} + 1; })); } catch (e) { print(e); } }`, "[object Object]1|RangeError: calls", ""},
		{down + `let o = {get x() { return 7; }, set x(v) { print(v); }}; for (const n of [196, 197]) { try { print(down(n, function () { return o.x; })); } catch (e) { print(e); } try { down(n, function () { o.x = n; }); } catch (e) { print(e); } }`, "7|196|RangeError: calls|RangeError: calls", ""},
		{down + `function F() { this.x = 1; } for (const n of [196, 197]) { try { print(down(n, function () { return new F().x; })); } catch (e) { print(e); } }`, "1|RangeError: calls", ""},
		// A generator that is made, or goes on, is refused likewise; those that wait do not count.
		{down + `function* g() { yield 1; } for (const n of [196, 197]) { try { print(down(n, function () { return typeof g(); })); } catch (e) { print(e); } }`, "object|RangeError: calls", ""},
		{down + `function* g() { yield 1; yield 2; } let i = g(); try { down(197, function () { i.next(); }); } catch (e) { print(e); } for (const n of [196, 197, 196]) { try { print(down(n, function () { return i.next().value; })); } catch (e) { print(e); } }`, "RangeError: calls|1|RangeError: calls|2", ""},
		{down + `function* g() { yield 1; } let i = g(); i.next(); try { down(197, function () { i.throw(5); }); } catch (e) { print(e); } try { down(197, function () { i.return(5); }); } catch (e) { print(e); } print(i.next().done); print(down(197, function () { return i.next().done; }));`, "RangeError: calls|RangeError: calls|true|true", ""},
		{`function* g() { yield 1; } let l = []; let i = 0; while (i < 300) { let x = g(); x.next(); l.push(x); i++; } function f(n) { return n === 0 ? 0 : 1 + f(n - 1); } print(f(198));`, "198", ""},
		{`let n = 0; function f() { try { f(); } finally { n++; } } try { f(); } catch (e) { print(e, n); }`, "RangeError: calls 199", ""},
		{`let n = 0; function f() { try { f(); } catch (e) { n++; } } f(); print(n);`, "1", ""},
	})
}

// P17.9: generators: one that is over, has not begun, or runs.
func TestGenerators(t *testing.T) {
	const tell = `function tell(g, how, x) { try { let r = g[how](x); print(how, r.value, r.done); } catch (e) { print(how, "threw", e); } } `
	each(t, []means{
		{tell + `let g = function* (a) { print("in", a, this); let b = yield a; print(b); let c = yield; print(c); return 9; }.call("t", 1); print("made"); tell(g, "next", 5); tell(g, "next", 6); tell(g, "next", 7); tell(g, "next", 8);`,
			"made|in 1 t|next 1 false|6|next undefined false|7|next 9 true|next undefined true", ""},
		{tell + `function* g() { try { yield 1; } catch (e) { print("caught", e); yield 2; } finally { print("f"); } } let i = g(); tell(i, "next"); tell(i, "throw", 5); tell(i, "next"); tell(i, "next"); tell(i, "throw", 6); tell(i, "return", 7); tell(i, "next", 8);`,
			"next 1 false|caught 5|throw 2 false|f|next undefined true|next undefined true|throw threw 6|return 7 true|next undefined true", ""},
		{tell + `function* g() { print("begun"); yield 1; } for (const how of ["throw", "return"]) { let i = g(); tell(i, how, 5); tell(i, "next"); tell(i, how, 6); }`, "throw threw 5|next undefined true|throw threw 6|return 5 true|next undefined true|return 6 true", ""},
		{tell + `let i; function* g() { tell(i, "next"); tell(i, "throw", 1); tell(i, "return", 1); yield 3; } i = g(); tell(i, "next"); tell(i, "next");`,
			"next threw TypeError: generator runs|throw threw TypeError: generator runs|return threw TypeError: generator runs|next 3 false|next undefined true", ""},
		{tell + `let i; function* h() { yield 1; tell(i, "next"); } function* g() { for (const x of h()) { yield x; } } i = g(); tell(i, "next"); tell(i, "next");`, "next 1 false|next threw TypeError: generator runs|next undefined true", ""},
		{tell + `function* g() { yield 1; } let i = g(); for (const how of ["next", "throw", "return"]) { for (const x of [undefined, 5, {}, g, Object.getPrototypeOf(i)]) { try { i[how].call(x); } catch (e) { print(e); } } }`, strings.Repeat("|TypeError: generator", 15)[1:], ""},
		{tell + `function* g() { yield 1; throw 2; } let i = g(); tell(i, "next"); tell(i, "next"); tell(i, "next");`, "next 1 false|next threw 2|next undefined true", ""},
		{tell + `function* g() { try { yield 1; } finally { yield 2; print("f"); } } let i = g(); tell(i, "next"); tell(i, "return", 5); tell(i, "next"); i = g(); tell(i, "next"); tell(i, "return", 5); tell(i, "throw", 6);`, "next 1 false|return 2 false|f|next 5 true|next 1 false|return 2 false|throw threw 6", ""},
		{`function* g() { yield 1; } let i = g(); print(Object.getPrototypeOf(i) === Object.getPrototypeOf(g()), i["$$iterator"]() === i, i.prototype, typeof i, i); let r = i.next(); for (const k of Object.keys(r)) { let d = Object.getOwnPropertyDescriptor(r, k); print(k, d.value, d.writable, d.enumerable, d.configurable); } print(Object.getPrototypeOf(r) === Object.prototype);`,
			"true true undefined object [object]|value 1 true true true|done false true true true|true", ""},
		{`function* g() { yield 1; } print(Object.getPrototypeOf(Object.getPrototypeOf(g())) === Object.prototype, g.hasOwnProperty("prototype")); let it = [7, 8]["$$iterator"](); print(it.next().value, it.next().value, it.next().done);`, "true false|7 8 true", ""},
		{`for (const x of "ab") { print(x); } for (const x of [1, 2]) { if (x === 2) { break; } print(x); } let a = [1, 2]; for (const x of a) { print(x); if (a.length < 4) { a.push(x * 10); } }`, "a|b|1|1|2|10|20", ""},
		{`let o = {length: 2, 0: "x", 1: "y", "$$iterator": [1]["$$iterator"]}; for (const x of o) { print(x); } let n = 0; let i = {"$$iterator": function () { return {next: function () { n++; return {done: n > 2, value: n}; }}; }}; for (const x of i) { print(x); }`, "x|y|1|2", ""},
		{`for (const x of [5, {}, {"$$iterator": 1}, {"$$iterator": function () { return 5; }}, {"$$iterator": function () { return {}; }}, {"$$iterator": function () { return {next: print}; }}]) { try { for (const y of x) { } } catch (e) { print(e); } }`,
			"TypeError: call|TypeError: call|TypeError: call|TypeError: iterator|TypeError: call||TypeError: iterator", ""},
	})
}
