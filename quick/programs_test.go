package quick_test

import (
	"strconv"
	"strings"
	"testing"

	"brazier/api"
)

// program is a text, what it prints (lines parted by |), and how it ends.
type program struct {
	s, lines string
	end      int
}

// everyWay: a program is done by 1, 2, 3 and many, by turns, and while all is forgotten at every boundary, or at some; the states are held against the baseline machine's at each one (of long programs: at some).
func everyWay(t *testing.T, k program) {
	t.Helper()
	often := 1 + howLong(t, k.s)/400
	for _, mosts := range [][]int{{1}, {2}, {3}, {1 << 40}} {
		load(t, k.s).run(often, mosts...).prints(k.lines, k.end)
	}
	for _, period := range []int{1, 7, 50} {
		b := load(t, k.s)
		for n := 0; b.m.End() == api.EndRunning; n++ {
			b.step(1 + n%3)
			if n%often == 0 {
				b.same()
			}
			if n%period == period-1 {
				b.flush()
			}
		}
		b.all()
		b.prints(k.lines, k.end)
	}
}

// howLong is how many instructions a program has in all.
func howLong(t *testing.T, s string) int {
	t.Helper()
	m := of(t, codeOf(t, s))
	for m.Step() {
		if m.Count() > plenty {
			t.Fatalf("%.3000s\nno end", s)
		}
	}
	return m.Count()
}

func each(t *testing.T, l []program) {
	t.Helper()
	for n, k := range l {
		if k.end == 0 {
			k.end = api.EndDone
		}
		t.Run(strconv.Itoa(n), func(t *testing.T) {
			t.Parallel()
			everyWay(t, k)
		})
	}
}

// P18.6: arithmetic on whole numbers that pass 32 bits and come back, on numbers with fractions, on texts, on all kinds.
func TestArithmetic(t *testing.T) {
	each(t, []program{
		{s: "let n = 2147483640; let i = 0; while (i < 16) { n++; i++; } print(n); while (i > 0) { n -= 2; i--; } print(n);", lines: "2147483656|2147483624"},
		{s: "let n = -2147483640; let i = 0; while (i < 16) { n = n - 1; i = i + 1; } print(n); while (i > 0) { n = n + 3; i = i - 1; } print(n);", lines: "-2147483656|-2147483608"},
		{s: "let n = 1; let i = 0; while (i < 40) { n = n * 3; if (n > 2147483647) { n = n % 1000003; } i += 1; } print(n);", lines: "35970399"},
		{s: "let n = 7; let i = 0; while (i < 6) { print(n / 2, n % 2, 0 / n, -n % 7, n * 0, n * -1); n -= 7; i++; }", lines: "3.5 1 0 0 0 -7|0 0 NaN 0 0 0|-3.5 -1 0 0 0 7|-7 0 0 0 0 14|-10.5 -1 0 0 0 21|-14 0 0 0 0 28"},
		{s: "let x = 0.5; let i = 0; while (i < 6) { x = x + 0.25; i++; } print(x, x < 2, x <= 2, x > 2, x >= 2, x | 0);", lines: "2 false true false true 2"},
		{s: `let s = ""; let i = 0; while (i < 5) { s = s + i; i++; } print(s, s < "1", s > "1", "2" < "10", 2 < "10");`, lines: "01234 true false false true"},
		{s: "function f(a, b) { return a + b; } print(f(1, 2), f(1, 2), f(0.5, 2), f(1, 2), f(\"a\", 2), f(1, 2), f(null, true), f(undefined, 1), f({}, []));", lines: "3 3 2.5 3 a2 3 1 NaN [object Object][object Object]"},
		{s: "function f(a, b) { return a << b; } function g(a, b) { return a >>> b; } print(f(1, 31), f(1, 31), g(-1, 0), g(-1, 0), g(-1, 1), f(3.7, 33.2), f(\"2\", 1), f(1, 2));", lines: "-2147483648 -2147483648 4294967295 4294967295 2147483647 6 4 4"},
		{s: "function f(a, b) { return a < b; } print(f(1, 2), f(2, 1), f(2, 2), f(NaN, 1), f(1, 2), f(-0, 0), f(\"b\", \"a\"), f(1, 2));", lines: "true false false false true false false true"},
		{s: "let o = {valueOf: function () { return 4; }}; let i = 0; let n = 0; while (i < 4) { n = i + o; n = o * i + n; n = n - (o < i); i++; } print(n);", lines: "19"},
		{s: "let i = 0; let n = 0; for (const x of [1, 2, 2147483647, 0.5, 3, \"q\", 4, null, 5]) { n = x & 3; i = i ^ x; print(n, i, x | 0, -x, ~x); }", lines: "1 1 1 -1 -2|2 3 2 -2 -3|3 2147483644 2147483647 -2147483647 -2147483648|0 2147483644 0 -0.5 -1|3 2147483647 3 -3 -4|0 2147483647 0 NaN -1|0 2147483643 4 -4 -5|0 2147483643 0 0 -1|1 2147483646 5 -5 -6"},
	})
}

// P18.6: objects of one, two, four, five shapes; properties of their own, of prototypes, and further above; functions, calls, generators.
func TestObjects(t *testing.T) {
	var many []string
	for _, n := range []string{"", "b: 1, ", "c: 1, ", "d: 1, ", "e: 1, "} {
		many = append(many, "{"+n+"a: 1}")
	}
	var l []program
	for n := 1; n <= 5; n++ {
		list := "[" + strings.Join(many[:n], ", ") + "]"
		l = append(l, program{s: "function f(o) { return o.a; } let l = " + list + "; let i = 0; let t = 0; while (i < 15) { t += f(l[i % l.length]); i++; } print(t);", lines: "15"},
			program{s: "function f(o, x) { o.a = x; } let l = " + list + "; let i = 0; while (i < 15) { f(l[i % l.length], i); i++; } for (const o of l) { i += o.a; } print(i);", lines: []string{"", "29", "42", "54", "65", "75"}[n]})
	}
	each(t, append(l, []program{
		{s: "let top = {x: 1, y: 2}; let mid = Object.create(top); mid.y = 3; let o = Object.create(mid); o.z = 4; let i = 0; let t = 0; while (i < 6) { t += o.x + o.y * 10 + o.z * 100; i++; if (i === 3) { mid.x = 5; } } print(t);", lines: "2598"},
		{s: "function P(a) { this.a = a; } P.prototype.get = function () { return this.a; }; P.prototype.set = function (x) { this.a = x; return this; }; let p = new P(1); let q = new P(2); let i = 0; while (i < 6) { p.set(p.get() + q.get()); q.set(i); i++; } print(p.a, q.a);", lines: "13 5"},
		{s: "function g(f, x) { return f(x); } function a(x) { return x + 1; } function b(x) { return x * 2; } let i = 0; let t = 0; while (i < 6) { t += g(a, i); i++; } while (i < 9) { t += g(b, i) + g(a, i) + g(print, i); i++; } print(t);", lines: "6|7|8|NaN"},
		{s: "function* g(o, n) { let i = 0; while (i < n) { o.a += yield o.a + i; i++; } return o.a; } let o = {a: 1}; let x = g(o, 4); let y = g({b: 1, a: 10}, 3); x.next(); y.next(); let i = 0; while (i < 5) { print(x.next(i).value, y.next(2 * i).value, o.a); i++; }", lines: "2 11 1|4 14 2|7 16 4|7 undefined 7|undefined undefined 7"},
		{s: "function f(n) { return n < 2 ? n : f(n - 1) + f(n - 2); } print(f(9));", lines: "34"},
		{s: "let o = {a: {a: {a: 5}}}; let i = 0; while (i < 3) { o.a.a.a++; o.a.a.a += o.a.a.a; i++; } print(o.a.a.a);", lines: "54"},
	}...))
}

// P18.6: the edges that the chapter names.
func TestEdges(t *testing.T) {
	each(t, []program{
		// an array's length, and elements
		{s: "function f(o) { return o.length; } let l = [1, 2]; let i = 0; while (i < 4) { print(f(l), f(\"abc\"), f({length: 9}), f(Object.create(l)), f(print)); l.push(i); i++; }", lines: "2 3 9 2 undefined|3 3 9 3 undefined|4 3 9 4 undefined|5 3 9 5 undefined"},
		{s: "function f(o, n) { o.length = n; return o[0]; } let l = [1, 2, 3]; let i = 0; while (i < 3) { try { f({length: 1}, i); f(l, i); } catch (e) { print(e); } i++; } print(l.length, l[0], l[1]);", lines: "2 undefined undefined"},
		// accessors: their own, inherited, without a getter or a setter
		{s: "let o = {get a() { return this.b; }, set a(x) { this.b = x + 1; }, b: 1}; let p = Object.create(o); let i = 0; while (i < 4) { o.a += 1; p.a = o.a; print(o.a, p.a, p.b); i++; }", lines: "3 4 4|5 6 6|7 8 8|9 10 10"},
		{s: "let o = {get a() { return 1; }, set b(x) { }}; let i = 0; while (i < 3) { try { print(o.b, o.a); o.b = 2; o.a = 3; } catch (e) { print(e); } i++; }", lines: "undefined 1|TypeError: write a|undefined 1|TypeError: write a|undefined 1|TypeError: write a"},
		// what is not found, and found later
		{s: "let top = {}; let o = Object.create(top); let i = 0; while (i < 6) { print(o.a); if (i === 2) { top.a = 7; } if (i === 4) { o.a = 8; } i++; }", lines: "undefined|undefined|undefined|7|7|8"},
		// objects that have no shape
		{s: "let o = {a: 1, b: 2}; delete o.b; let p = Object.create(o); let i = 0; while (i < 4) { o.a++; print(o.a, p.a); i++; }", lines: "2 2|3 3|4 4|5 5"},
		{s: "let top = {a: 1}; let mid = Object.create(top); mid.q = 1; delete mid.q; let o = Object.create(mid); let i = 0; while (i < 5) { print(o.a); if (i === 2) { mid.a = 9; } i++; }", lines: "1|1|1|9|9"},
		{s: "let o = {a: 0}; let i = 0; while (i < 20) { o[\"k\" + i] = i; o.a += o.k0; i++; } print(o.a, o.k19);", lines: "0 19"},
		// what is written: an own property alone that is data and Writable
		{s: "let top = {a: 1}; let o = Object.create(top); function set(x) { o.a = x; } set(2); set(3); print(top.a, o.a); set(4); print(o.a);", lines: "1 3|4"},
		{s: "let o = {a: 1}; function set(x) { try { o.a = x; } catch (e) { print(e); } return o.a; } print(set(2), set(3)); Object.defineProperty(o, \"a\", {writable: false}); print(set(4)); Object.defineProperty(o, \"a\", {writable: true}); print(set(5), set(6));", lines: "2 3|TypeError: write a|3|5 6"},
		{s: "let o = {a: 1}; let got = 0; function set(x) { o.a = x; return o.a; } print(set(2), set(3)); Object.defineProperty(o, \"a\", {get: function () { return 7; }, set: function (x) { got += x; }}); print(set(4), set(5), got); Object.defineProperty(o, \"a\", {value: 1, writable: true}); print(set(8), set(9));", lines: "2 3|7 7 9|8 9"},
		{s: "let o = {a: 1}; function all(x) { o.a = x; return o.a; } print(all(2), all(3)); delete o.a; print(o.a, all(4), all(5)); Object.preventExtensions(o); print(all(6)); delete o.a; try { all(7); } catch (e) { print(e, o.a); }", lines: "2 3|undefined 4 5|6|TypeError: write a undefined"},
		{s: "let f = Object.preventExtensions({a: 1}); let i = 0; while (i < 3) { f.a = f.a + i; i++; } print(f.a);", lines: "4"},
		// what is laid at an object between, or goes there, after it was learnt
		{s: "let top = {a: 1}; let mid = Object.create(top); let o = Object.create(mid); function get() { return o.a; } print(get(), get()); mid.a = 2; print(get(), get()); delete mid.a; print(get(), get()); top.a = 3; print(get()); o.a = 4; print(get()); delete o.a; print(get());", lines: "1 1|2 2|1 1|3|4|3"},
		{s: "let top = {a: 1}; let mid = Object.create(top); let o = Object.create(mid); function get() { return o.a; } print(get(), get()); Object.defineProperty(mid, \"a\", {get: function () { return 5; }, configurable: true}); print(get(), get()); Object.defineProperty(mid, \"a\", {value: 6}); print(get(), get());", lines: "1 1|5 5|6 6"},
		{s: "let top = {a: 1}; let mid = Object.create(top); let o = Object.create(mid); function get() { return o.a; } print(get(), get()); Object.setPrototypeOf(mid, {a: 2}); print(get(), get()); Object.setPrototypeOf(o, {a: 3}); print(get(), get()); Object.setPrototypeOf(o, null); print(get());", lines: "1 1|2 2|3 3|undefined"},
		{s: "let l = [1]; let o = Object.create(l); function get() { return o.length; } print(get(), get()); l.push(2); print(get()); Object.setPrototypeOf(o, {length: 5}); print(get(), get());", lines: "1 1|2|5 5"},
	})
}

// P18.6: what is no object is read and written, what can't be called is called: the errors are the baseline machine's.
func TestWrong(t *testing.T) {
	each(t, []program{
		{s: "function get(o) { try { return o.a; } catch (e) { return \"\" + e; } } let l = [{a: 1}, null, undefined, 1, \"t\", true, {a: 2}]; let i = 0; while (i < 14) { print(get(l[i % 7])); i++; }",
			lines: "1|TypeError: read a|TypeError: read a|undefined|undefined|undefined|2|1|TypeError: read a|TypeError: read a|undefined|undefined|undefined|2"},
		{s: "function set(o) { try { o.a = 3; return o.a; } catch (e) { return \"\" + e; } } let l = [{a: 1}, null, undefined, 1, \"t\", true]; let i = 0; while (i < 12) { print(set(l[i % 6])); i++; }",
			lines: "3|TypeError: write a|TypeError: write a|TypeError: write a|TypeError: write a|TypeError: write a|3|TypeError: write a|TypeError: write a|TypeError: write a|TypeError: write a|TypeError: write a"},
		{s: "String.prototype.a = 1; Number.prototype.a = 2; Boolean.prototype.a = 3; function get(o) { return o.a; } let i = 0; while (i < 2) { print(get(\"x\"), get(4), get(0.5), get(true), get({a: 5})); i++; }", lines: "1 2 2 3 5|1 2 2 3 5"},
		{s: "function f(g) { try { return g(); } catch (e) { return \"\" + e; } } print(f(1), f(null), f(print), f({}), f(function () { throw 2; }), f(f));", lines: "|TypeError: call TypeError: call undefined TypeError: call 2 TypeError: call"},
		{s: "function f(o) { return f(o) + o.a; } try { f({a: 1}); } catch (e) { print(e); }", lines: "RangeError: calls"},
		{s: "let l = []; function f(n, o) { if (n > 0) { return f(n - 1, o); } try { return o + o; } catch (e) { return e; } } let n = 199; while (n > 196) { try { print(f(n, l)); } catch (e) { print(n, e); } n--; }", lines: "199 RangeError: calls|RangeError: calls|[object Object][object Object]"},
		{s: "let o = {valueOf: function () { return o + 1; }}; try { o + 1; } catch (e) { print(e); }", lines: "RangeError: calls"},
		{s: "let o = {a: {a: null}}; while (true) { o = o.a; }", end: api.EndThrown},
		{s: "let s = \"ab\"; while (true) { s = s + s; }", end: api.EndMemory},
	})
}
