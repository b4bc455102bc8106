package host_test

import (
	"slices"
	"strconv"
	"testing"

	"brazier/api"
	"brazier/host"
)

// program is a text, what it prints (lines parted by |), how it ends (0: EndDone), and what was thrown that nobody caught.
type program struct {
	text, lines string
	end         int
	left        string
}

// slices of unlike lengths, by one machine, by the other, or by both in turn; below 0: what is learnt is forgotten ahead of it.
func turns() [][]api.Act {
	return [][]api.Act{
		{run(all, false)}, {run(all, true)},
		{run(1, true)}, {run(2, true)}, {run(1, true), run(1, false)},
		{flush(), run(1, true), flush(), run(2, true), flush(), run(3, true)},
		{run(5, true), run(3, false), run(0, true), run(1, false), run(2, true), run(-1, false), run(17, true)},
		{run(97, true), flush(), flush(), run(31, true), run(7, false), flush(), run(11, true)},
		{run(700, false), run(all+1, true)}, {run(700, true), flush(), run(1<<40, false)},
	}
}

// played is a script that runs a program to its end by those turns, again and again, and reads behind each.
func played(text string, turns []api.Act) []api.Act {
	l := script(read(), load(text), read())
	h := host.New()
	each(h, l)
	for n := 0; h.Do(read()).End == api.EndRunning; n++ {
		a := turns[n%len(turns)]
		h.Do(a)
		l = append(l, a, read())
	}
	return append(l, flush(), run(9, true), read(), run(9, false), read())
}

// plain is the same script, with all its runs on the baseline machine and without its flushes.
func plain(l []api.Act) (k []api.Act) {
	for _, a := range l {
		if a.Quick = false; a.Kind != api.HostFlush {
			k = append(k, a)
		}
	}
	return k
}

// seen is what a script is answered, but what its flushes are.
func seen(l []api.Act, told []api.Told) (k []api.Told) {
	for n, a := range l {
		if a.Kind != api.HostFlush {
			k = append(k, told[n])
		}
	}
	return k
}

// unseen: a script is answered the same at once and one by one; and, its flushes left out, on the baseline machine alone. What it is answered.
func unseen(t *testing.T, l []api.Act) []api.Told {
	t.Helper()
	told := host.Play(l)
	if len(told) != len(l) {
		t.Fatalf("%.3000v: %d acts are answered %d times", l, len(l), len(told))
	}
	differs(t, l, each(host.New(), l), told)
	k := plain(l)
	differs(t, k, host.Play(k), seen(l, told))
	return told
}

// differs tells the first answer that is not the one it is held against.
func differs(t *testing.T, l []api.Act, got, want []api.Told) {
	t.Helper()
	for n := range min(len(got), len(want)) {
		if !alike(got[n], want[n]) {
			t.Fatalf("%.6000v\nact %d, %+v, is answered %+v and not %+v", l, n, l[n], got[n], want[n])
		}
	}
	if len(got) != len(want) {
		t.Fatalf("%.6000v is answered %d times and not %d", l, len(got), len(want))
	}
}

// reads: what a script that is played to its end reads is a beginning of what the program prints, that goes forward alone; and all of it in the end.
func (k program) reads(t *testing.T, l []api.Act, told []api.Told) {
	t.Helper()
	want, far, count := parted(k.lines), 0, 0
	for n, a := range l {
		one := told[n]
		switch {
		case one.Code != api.OK:
		case a.Kind == api.HostRun:
			count += one.Count
		case a.Kind == api.HostRead:
			if !begins(one.Log, want) || len(one.Log) < far || one.Count != count {
				t.Fatalf("%.6000s\nbehind %d instructions it stands %+v, and prints %q", k.text, count, one, want)
			}
			far = len(one.Log)
			if ended := one.End != api.EndRunning; ended && (one.End != k.end || one.Uncaught != k.left || far != len(want)) || !ended && one.Uncaught != "" {
				t.Fatalf("%.6000s\nbehind %d instructions it stands %+v, and ends %d %q, with %q", k.text, count, one, k.end, k.left, want)
			}
		}
	}
	if last := told[len(told)-1]; last.End != k.end {
		t.Fatalf("%.6000s\nit ends %d, and not %d", k.text, last.End, k.end)
	}
}

// means plays a program by all turns.
func means(t *testing.T, l []program) {
	t.Helper()
	for n, k := range l {
		if k.end == 0 {
			k.end = api.EndDone
		}
		t.Run(strconv.Itoa(n), func(t *testing.T) {
			t.Parallel()
			for _, turns := range turns() {
				l := played(k.text, turns)
				k.reads(t, l, unseen(t, l))
			}
		})
	}
}

// P20.3: the document's ten examples of the whole.
func TestExamplesOfTheWhole(t *testing.T) {
	means(t, []program{
		{text: `print(1 + 2 * 3, "a" + 1);`, lines: "7 a1"},
		{text: `let f = []; for (const x of [1, 2]) { f.push(function () { return x; }); } print(f[0](), f[1]());`, lines: "1 2"},
		{text: `function P(a) { this.a = a; } P.prototype.get = function () { return this.a; }; print(new P(4).get());`, lines: "4"},
		{text: `let o = Object.create({x: 1}); print(o.x); Object.setPrototypeOf(o, {x: 2}); print(o.x);`, lines: "1|2"},
		{text: `function* g(n) { let i = 0; while (i < n) { yield i; i++; } } for (const x of g(2)) { print(x); }`, lines: "0|1"},
		{text: `try { null.x; } catch (e) { print(e); }`, lines: "TypeError: read x"},
		{text: `let n = 2147483647; n++; print(n, n | 0, 1 / -0, 0.1 + 0.2);`, lines: "2147483648 -2147483648 -Infinity 0.30000000000000004"},
		{text: `let o = {valueOf: function () { return 4; }}; print(o + 1, o == 4, o > 3);`, lines: "5 true true"},
		{text: `function g() { try { return 1; } finally { print(2); } } print(g());`, lines: "2|1"},
		{text: `print(x); let x = 1;`, end: api.EndThrown, left: "ReferenceError: x"},
	})
}

// P20.3: loops, and the ways out of them; closures.
func TestLoops(t *testing.T) {
	means(t, []program{
		{text: `let s = 0; let i; for (i = 0; i < 20; i++) { if (i % 3 === 0) { continue; } if (i > 15) { break; } s += i; print(i, s); }`, lines: "1 1|2 3|4 7|5 12|7 19|8 27|10 37|11 48|13 61|14 75"},
		{text: `outer: for (const x of [1, 2, 3]) { for (const y of [1, 2, 3]) { if (y > x) { continue outer; } if (x * y === 6) { break outer; } print(x, y); } }`, lines: "1 1|2 1|2 2|3 1"},
		{text: `function counter() { let n = 0; return {up: function () { n++; return n; }, down: function () { n--; return n; }}; } let a = counter(); let b = counter(); print(a.up(), a.up(), b.down(), a.down(), b.up());`, lines: "1 2 -1 1 0"},
		{text: `function fib(n) { return n < 2 ? n : fib(n - 1) + fib(n - 2); } let s = ""; let i = 0; while (i < 10) { s += fib(i++) + ","; } print(s);`, lines: "0,1,1,2,3,5,8,13,21,34,"},
		{text: `let l = []; for (let x of [1, 2, 3]) { l.push(function () { return x++; }); } for (const f of l) { f(); } print(l[0](), l[1](), l[2]());`, lines: "2 3 4"},
		{text: `function deep(n) { return n === 0 ? 0 : 1 + deep(n - 1); } print(deep(150)); try { deep(200); } catch (e) { print(e); } print(deep(198));`, lines: "150|RangeError: calls|198"},
	})
}

// P20.3: generators, that wait while others run.
func TestGenerators(t *testing.T) {
	means(t, []program{
		{text: `function* g() { try { const a = yield 1; print("sent", a); yield 2; } finally { print("over"); } } let i = g(); print(i.next().value, i.next(5).value); let r = i.return(7); print(r.value, r.done, i.next().done);`, lines: "sent 5|1 2|over|7 true true"},
		{text: `function* up(n) { let i = 0; while (true) { if (i === n) { return; } yield i++; } } for (const a of up(3)) { for (const b of up(9)) { if (b > a) { break; } print(a, b); } }`, lines: "0 0|1 0|1 1|2 0|2 1|2 2"},
		{text: `function* nat() { let n = 0; while (true) { yield n++; } } function* take(n, of) { for (const x of of) { if (n-- <= 0) { return; } yield x; } } function* twice(of) { for (const x of of) { yield x; yield x; } } let s = ""; for (const x of take(5, twice(nat()))) { s += x; } print(s);`, lines: "00112"},
		{text: `function* g() { try { yield 1; } catch (e) { print("caught", e); yield 3; } } let i = g(); i.next(); print(i.throw("x").value, i.next().done); try { i.throw("y"); } catch (e) { print(e); }`, lines: "caught x|3 true|y"},
	})
}

// P20.3: objects that are laid out unlike each other, their prototypes, getters and setters.
func TestObjects(t *testing.T) {
	means(t, []program{
		{text: `let o = {n: 1, get twice() { return this.n * 2; }, set twice(v) { this.n = v / 2; }}; o.twice = 10; print(o.n, o.twice); o.twice += 4; print(o.n++, o.twice--, o.n);`, lines: "5 10|7 16 7.5"},
		{text: `let o = {get a() { return 1; }, set b(v) { print("b", v); }}; print(o.a, o.b); o.b = 2; try { o.a = 2; } catch (e) { print(e); } print(o.a);`, lines: "1 undefined|b 2|TypeError: write a|1"},
		{text: `function f(o) { return o.x; } let p = {x: 1}; let l = [{x: 2}, {y: 0, x: 3}, Object.create(p), Object.create(Object.create(p)), [], "t", 5, true]; let n = 0; while (n < 3) { let s = ""; for (const o of l) { s += f(o) + ","; } print(s); p.x += 10; if (n === 1) { delete p.x; Object.prototype.x = 99; } n++; }`, lines: "2,3,1,1,undefined,undefined,undefined,undefined,|2,3,11,11,undefined,undefined,undefined,undefined,|2,3,99,99,99,99,99,99,"},
		{text: `let n = 0; function F() { this.x = 1; } let s = ""; while (n < 6) { if (n === 3) { Object.defineProperty(F.prototype, "x", {set: function (v) { s += "set"; }, configurable: true}); } if (n === 4) { delete F.prototype.x; } let o = new F(); s += o.x; n++; } print(s);`, lines: "111setundefined11"},
		{text: `function A() { this.a = 1; } A.prototype.f = function () { return "A" + this.a; }; function B() { A.call(this); this.b = 2; } B.prototype = Object.create(A.prototype); B.prototype.g = function () { return this.f() + this.b; }; let i = 0; while (i < 4) { print(new B().g()); if (i === 1) { A.prototype.f = function () { return "other"; }; } i++; }`, lines: "A12|A12|other2|other2"},
		{text: `let o = {a: 1, b: 2, c: 3}; delete o.b; o.b = 4; o["d"] = 5; let s = ""; for (const k of Object.keys(o)) { s += k + o[k]; } print(s); Object.preventExtensions(o); try { o.e = 1; } catch (e) { print(e); } print(o.e, Object.isExtensible(o));`, lines: "a1c3b4d5|TypeError: write e|undefined false"},
	})
}

// P20.3: errors that are thrown, and caught or not.
func TestErrors(t *testing.T) {
	means(t, []program{
		{text: `function f(n) { if (n === 0) { throw new RangeError("deep"); } try { f(n - 1); } finally { print("out", n); } } try { f(3); } catch (e) { print(e, e.message, e instanceof RangeError, e instanceof Error, e instanceof TypeError); }`, lines: "out 1|out 2|out 3|RangeError: deep deep true true false"},
		{text: `for (const f of [function () { undefined.x; }, function () { null.x = 1; }, function () { 1(); }, function () { new 2(); }, function () { "a" in 5; }, function () { later; }]) { try { f(); } catch (e) { print(e); } } let later = 1;`, lines: "TypeError: read x|TypeError: write x|TypeError: call|TypeError: new|TypeError: in|ReferenceError: later"},
		{text: `print(1); throw "left"; print(2);`, lines: "1", end: api.EndThrown, left: "left"},
		{text: `try { try { throw 1; } catch (e) { throw e + 1; } finally { print("f"); } } catch (e) { print(e); throw [e]; } finally { print("g"); }`, lines: "f|2|g", end: api.EndThrown, left: "[object]"},
		{text: `function risky(n) { if (n % 3 === 0) { throw n; } return n; } let s = 0; let c = 0; let n = 0; while (n < 60) { try { s += risky(n); } catch (e) { c += e; } n++; } print(s, c);`, lines: "1200 570"},
		{text: `function f() { f(); } f();`, end: api.EndThrown, left: "RangeError: calls"},
		{text: `let s = "0123456789abcdef"; let n = 0; while (true) { s += s; n++; print(n); }`, lines: "1|2|3|4|5|6|7|8", end: api.EndMemory},
	})
}

// P20.3: texts, arrays and numbers.
func TestTextsAndArrays(t *testing.T) {
	means(t, []program{
		{text: `let out = ""; for (const c of "hello") { out = c + out; print(out, out.length, out[0], out < "i"); }`, lines: "h 1 h true|eh 2 e true|leh 3 l false|lleh 4 l false|olleh 5 o false"},
		{text: `let s = "abc"; print(s.slice(1), s.slice(-2, -1), s.indexOf("c"), s.charCodeAt(1), s[3], "" === '', "10" < "9", "10" < 9);`, lines: "bc b 2 98 undefined true true false"},
		{text: `let a = [5, 3, 9, 1, 7]; let i; let j; for (i = 0; i < a.length; i++) { for (j = 0; j + 1 < a.length - i; j++) { if (a[j] > a[j + 1]) { let t = a[j]; a[j] = a[j + 1]; a[j + 1] = t; } } } for (const x of a) { print(x); }`, lines: "1|3|5|7|9"},
		{text: `let a = []; a[3] = "x"; print(a.length, a[0], 0 in a, 3 in a); a.length = 1; print(a.length, a[3], a.push(7, 8), a.pop(), a.length); let s = ""; for (const v of a) { s += v + ","; } print(s);`, lines: "4 undefined false true|1 undefined 3 8 2|undefined,7,"},
		{text: `let n = 2147483640; let i = 0; while (i < 10) { n++; i++; } print(n, n | 0, n >>> 0, n >> 1, -n | 0, ~n, n << 1); let m = -2147483646; for (i = 0; i < 4; i++) { m -= 1; } print(m, 0.5 + m, 7 % -3, 1 / (-4 % 2), "3" * "4");`, lines: "2147483650 -2147483646 2147483650 -1073741823 2147483646 2147483645 4|-2147483650 -2147483649.5 1 -Infinity 12"},
		{text: `let o = {n: 0, valueOf: function () { this.n++; return this.n; }}; print(o + 1, o * 2, o < 4, -o, o == 5, o + "", o | 0, o++); print(o);`, lines: "2 4 true -4 true 6 7 8|9"},
	})
}

// P20.3: where there is no room for more lines, objects or texts, it ends so, wherever the slices of it end.
func TestRoom(t *testing.T) {
	for _, text := range []string{
		`let n = 0; try { while (true) { print(n++); } } finally { n = -1; }`,
		`let n = 0; try { while (true) { [1]; if (n++ % 100 === 0) { print(n); } } } catch (e) { print(e); } finally { print("no"); }`,
		`let n = 0; while (true) { n++; "t" + n; }`,
	} {
		l := script(load(text))
		for n := range 60 {
			l = append(l, run(40009+n, n%5 > 0), flush(), run(7, false), read())
		}
		told := unseen(t, l)
		if last := told[len(told)-1]; last.End != api.EndMemory || last.Uncaught != "" || slices.Contains(last.Log, "no") || len(last.Log) > api.MaxLog {
			t.Error(text, "ends", last.End, last.Uncaught, "with", len(last.Log), "lines")
		}
	}
}
