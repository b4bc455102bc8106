package engine_test

import (
	"slices"
	"strconv"
	"testing"

	"brazier/api"
	"brazier/parse"
)

// program is a text, what it prints (lines parted by |), how it ends (0: EndDone), and what was thrown that nobody caught.
type program struct {
	text, lines string
	end         int
	left        string
}

func each(t *testing.T, l []program) {
	t.Helper()
	for n, k := range l {
		if k.end == 0 {
			k.end = api.EndDone
		}
		t.Run(strconv.Itoa(n), func(t *testing.T) {
			t.Parallel()
			means(t, k)
			everyWay(t, k)
		})
	}
}

// means: it is what the program's tree means.
func means(t *testing.T, k program) {
	t.Helper()
	tree, _, _ := parse.Parse(k.text)
	w := newWorld()
	end, left := w.ends(func() { w.run(tree) })
	if end != k.end || left != k.left || !slices.Equal(w.log, parted(k.lines)) {
		t.Errorf("%.3000s\nmeans %q, %d %q\nwant  %q, %d %q", k.text, w.log, end, left, parted(k.lines), k.end, k.left)
	}
}

// everyWay: whichever machine does which part, the program prints what it means, and ends so; and its state is the baseline machine's.
func everyWay(t *testing.T, k program) {
	t.Helper()
	m := baseline(t, k.text)
	for m.Count() < plenty && m.Step() {
	}
	for _, turns := range ways() {
		p := both(t, k.text)
		p.toEnd(1+m.Count()/300, turns...)
		p.prints(parted(k.lines), k.end, k.left)
		if p.e.Machine().Count() != m.Count() {
			p.fail(turns, "has", p.e.Machine().Count(), "instructions and not", m.Count())
		}
	}
}

// P19.4: the document's ten examples of the whole.
func TestExamples(t *testing.T) {
	each(t, []program{
		{text: `print(1 + 2 * 3, "a" + 1);`, lines: "7 a1"},
		{text: `let f = []; for (const x of [1, 2]) { f.push(function () { return x; }); } print(f[0](), f[1]());`, lines: "1 2"},
		{text: `function P(a) { this.a = a; } P.prototype.get = function () { return this.a; }; print(new P(4).get());`, lines: "4"},
		{text: `let o = Object.create({x: 1}); print(o.x); Object.setPrototypeOf(o, {x: 2}); print(o.x);`, lines: "1|2"},
		{text: `function* g(n) { let i = 0; while (i < n) { yield i; i++; } } for (const x of g(2)) { print(x); }`, lines: "0|1"},
		{text: `try { null.x; } catch (e) { print(e); }`, lines: "TypeError: read x"},
		{text: `let n = 2147483647; n++; print(n, n | 0, 1 / -0, 0.1 + 0.2);`, lines: "2147483648 -2147483648 -Infinity 0.30000000000000004"},
		{text: `let o = {valueOf: function () { return 4; }}; print(o + 1, o == 4, o > 3);`, lines: "5 true true"},
		{text: `function g() { try { return 1; } finally { print(2); } } print(g());`, lines: "2|1"},
		{text: `print(x); let x = 1;`, end: api.EndThrown, left: "ReferenceError: x"},
	})
}

// P19.4: an empty text, blanks and remarks ahead of a program and behind it.
func TestBlanks(t *testing.T) {
	each(t, []program{
		{text: ""}, {text: " \n\t"}, {text: ";"}, {text: "// print(1);"}, {text: "/* print(1); */"},
		{text: "\n\t// a\n/* b */ print(1);", lines: "1"},
		{text: "print(1); // print(2);", lines: "1"},
		{text: "print(1);/* print(2);\n*/\t\n", lines: "1"},
		{text: "print/**/(1//\n)\n;", lines: "1"},
	})
}

// P19.4: loops, and the ways out of them.
func TestLoops(t *testing.T) {
	each(t, []program{
		{text: `let i = 0; let s = 0; while (i < 100) { s += i; i++; } print(s, i);`, lines: "4950 100"},
		{text: `let i; for (i = 5; i > 0; i--) { if (i % 2) { continue; } print(i); } for (;;) { if (i++ > 3) { break; } } print(i);`, lines: "4|2|5"},
		{text: `let n = 0; a: for (const x of [1, 2, 3]) { b: for (const y of [1, 2, 3]) { n++; if (y === 2 && x === 1) { continue a; } if (x === 3) { break a; } if (y === 3) { break b; } } print(x, n); } print(n);`, lines: "2 5|6"},
		{text: `a: { print(1); b: { if (true) { break a; } print(2); } print(3); } print(4); c: if (1) { break c; } d: e: while (true) { let k = 0; while (true) { k++; if (k > 2) { break d; } continue; } }`, lines: "1|4"},
		{text: `let out = ""; a: for (const x of "abc") { try { if (x === "b") { continue a; } out += x; } finally { out += "f"; if (x === "c") { break a; } } out += "."; } print(out);`, lines: "af.fcf"},
		{text: `function f() { for (const x of [1, 2, 3]) { try { try { if (x === 2) { return x; } } finally { print("in", x); } } finally { print("out", x); } } } print(f());`, lines: "in 1|out 1|in 2|out 2|2"},
		{text: `function f() { while (true) { try { return 1; } finally { break; } } return 2; } function g() { a: try { return 1; } finally { break a; } return 3; } function h() { let n = 0; while (n < 3) { n++; try { throw n; } catch (e) { continue; } finally { print("f", n); } } return n; } print(f(), g(), h());`, lines: "f 1|f 2|f 3|2 3 3"},
		{text: `let n = 0; while (n < 3) { let x = n; { let x = 10; n += 1; x += n; print(x); } print(x); } `, lines: "11|0|12|1|13|2"},
		{text: `for (const x of []) { print(x); } for (let x of [1, 2]) { x += 10; print(x); } let l = [1]; for (const x of l) { if (x < 4) { l.push(x + 1); } print(x, l.length); }`, lines: "11|12|1 2|2 3|3 4|4 4"},
	})
}

// P19.4: closures: what they take along is theirs together, round by round.
func TestClosures(t *testing.T) {
	each(t, []program{
		{text: `function counter() { let n = 0; return {up: function () { n++; return n; }, down: function () { return --n; }}; } let a = counter(); let b = counter(); print(a.up(), a.up(), b.down(), a.down(), b.up());`, lines: "1 2 -1 1 0"},
		{text: `let l = []; let i = 0; while (i < 3) { let x = i; let y; l.push(function (d) { x += d; y = (y || 0) + 1; return x * 10 + y; }); i++; } print(l[0](1), l[1](1), l[2](1), l[0](1));`, lines: "11 21 31 22"},
		{text: `let get; { let x = 1; function f() { return x; } get = f; x = 2; } print(get()); function outer() { return inner(); function inner() { return late; } let late = 1; } try { outer(); } catch (e) { print(e); }`, lines: "2|ReferenceError: late"},
		{text: `function f(a) { function g() { a += 1; return a; } g(); return [a, g]; } let r = f(1); print(r[0], r[1](), r[1]());`, lines: "2 3 4"},
		{text: `let f = function fac(n) { return n < 2 ? 1 : n * fac(n - 1); }; let g = f; f = null; print(g(10), typeof fac2()); function fac2() { return function h() { return h; }(); }`, lines: "3628800 function"},
		{text: `let l = []; for (let x of [1, 2, 3]) { l.push(function () { return x++; }); } for (const f of l) { f(); } print(l[0](), l[1](), l[2]());`, lines: "2 3 4"},
		{text: `let l = []; for (const x of [1, 2]) { try { throw x; } catch (e) { l.push(function () { return e + x; }); } } print(l[0](), l[1]());`, lines: "2 4"},
		{text: `function f(x) { return function (y) { return function (z) { x += 1; return x + y + z; }; }; } let g = f(1)(10); print(g(100), g(100), f(1)(10)(100));`, lines: "112 113 112"},
	})
}

// P19.4, R7: names that are not reached yet.
func TestUnreached(t *testing.T) {
	each(t, []program{
		{text: `try { f(); let y = 1; function f() { y = 2; } } catch (e) { print(e); }`, lines: "ReferenceError: y"},
		{text: `try { let z = z; } catch (e) { print(e); }`, lines: "ReferenceError: z"},
		{text: `try { w += print(1); let w; } catch (e) { print(e); }`, lines: "ReferenceError: w"},
		{text: `try { w = print(1); let w; } catch (e) { print(e); }`, lines: "1|ReferenceError: w"},
		{text: `try { w++; let w; } catch (e) { print(e); } let x; print(x);`, lines: "ReferenceError: w|undefined"},
		{text: `let x = 1; { try { print(x); } catch (e) { print(e); } let y = x; print(y); } { try { x; } catch (e) { print(e); } let z = 2; { print(z); } }`, lines: "1|1|2"},
		{text: `let n = 0; let f; while (n < 2) { try { if (f) { print(f()); } g(); } catch (e) { print(e); } let v = n; function g() { return v; } f = g; n++; }`, lines: "ReferenceError: v|0|ReferenceError: v"},
		{text: `function f(a) { try { return a + b; } finally { print("f"); } let b; } f(1);`, lines: "f", end: api.EndThrown, left: "ReferenceError: b"},
		{text: `typeof x; let x;`, end: api.EndThrown, left: "ReferenceError: x"},
	})
}

// P19.4: generators.
func TestGenerators(t *testing.T) {
	each(t, []program{
		{text: `function* g(a) { let b = yield a; print("b", b); let c = yield a + b; print("c", c); return a + b + c; } let i = g(1); print(i.next("no").value, i.next(10).value); let r = i.next(100); print(r.value, r.done); r = i.next(); print(r.value, r.done);`, lines: "b 10|1 11|c 100|111 true|undefined true"},
		{text: `function* g() { try { yield 1; yield 2; } catch (e) { print("caught", e); yield 3; } finally { print("end"); yield 4; } } let i = g(); i.next(); print(i.throw("x").value, i.next().value, i.next().done); i = g(); i.next(); print(i.return(7).value); let r = i.next(); print(r.value, r.done);`, lines: "caught x|end|3 4 true|end|4|7 true"},
		{text: `function* g() { yield 1; } let i = g(); let r = i.return(5); print(r.value, r.done, i.next().done); i = g(); try { i.throw(6); } catch (e) { print(e); } print(i.next().done); i = g(); i.next(); try { i.throw(new Error("q")); } catch (e) { print(e); } print(i.next().value);`, lines: "5 true true|6|true|Error: q|undefined"},
		{text: `function* nat() { let n = 0; while (true) { yield n++; } } function* take(n, of) { for (const x of of) { if (n-- <= 0) { return; } yield x; } } function* twice(of) { for (const x of of) { yield x; yield x; } } let s = ""; for (const x of take(5, twice(nat()))) { s += x; } print(s);`, lines: "00112"},
		{text: `let i; function* g() { try { i.next(); } catch (e) { print(e); } yield 1; } i = g(); print(i.next().value, i.next().done); try { g().next.call({}); } catch (e) { print(e); }`, lines: "TypeError: generator runs|1 true|TypeError: generator"},
		{text: `function* fib() { let a = 0; let b = 1; while (true) { yield a; let t = a + b; a = b; b = t; } } let s = 0; for (const x of fib()) { if (x > 1000) { break; } s += x; } print(s);`, lines: "2583"},
		{text: `function* g() { let x = (yield) + (yield 2) * (yield); print(x); } let i = g(); i.next(); i.next(1); i.next(2); i.next(3);`, lines: "7"},
		{text: `let o = {n: 3}; o["$$iterator"] = function () { let n = this.n; return {next: function () { n--; return {value: n * n, done: n < 0}; }}; }; for (const x of o) { print(x); } for (const v of [5, {}, null]) { try { for (const x of v) { print(x); } } catch (e) { print(e); } }`, lines: "4|1|0|TypeError: call|TypeError: call|TypeError: read $$iterator"},
		{text: `function* g() { yield this; return typeof this; } let i = g.call(7); print(i.next().value, i.next().value); try { new g(); } catch (e) { print(e); } print(g().next === g().next, typeof g(), g() + "");`, lines: "7 number|TypeError: new|true object [object Object]"},
		{text: `function* g() { for (const x of [1, 2]) { try { yield x; } finally { print("f", x); } } } for (const x of g()) { print(x); } let i = g(); i.next(); i.return(); print(i.next().done);`, lines: "1|f 1|2|f 2|f 1|true"},
	})
}
