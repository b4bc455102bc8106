package machine_test

import (
	"fmt"
	"strings"
	"testing"

	"brazier/api"
	"brazier/machine"
	"brazier/word"
)

// P17.2: EndMemory at each of its limits; nothing catches it.
func TestMemory(t *testing.T) {
	m := prints(t, `let i = 0; try { while (true) { print(i); i++; } } catch (e) { print(e); } finally { print("f"); }`, strings.Join(numbers(api.MaxLog), "|"), "memory")
	if len(m.Log()) != api.MaxLog {
		t.Error(len(m.Log()))
	}
	prints(t, `let i = 0; while (i < 4096) { print(i); i++; }`, strings.Join(numbers(api.MaxLog), "|"), "")
	prints(t, `let s = "x"; while (s.length < 4096) { s += s; } print(s.length); try { s += "y"; } catch (e) { print(e); } print("on");`, "4096", "memory")
	prints(t, `let s = "x"; while (s.length < 4096) { s += s; } print((s + "").length, ("" + s).length, s === s.slice(0)); let l = [s, s]; print.apply(null, l); try { null[s]; } catch (e) { print(e); }`, "4096 4096 true|"+strings.Repeat("x", 4096)+" "+strings.Repeat("x", 4096), "memory")
	m = load(t, `let l = []; while (true) { l = {}; }`)
	run(m, plenty)
	if ended(m) != "memory" || m.Heap().Objects() != api.MaxObjects {
		t.Error(ended(m), m.Heap().Objects())
	}
	stands(t, m)
	m = load(t, `let i = 0; while (true) { i++; "" + i; }`)
	run(m, plenty)
	if _, ok := m.Heap().Text("another one"); ended(m) != "memory" || ok {
		t.Error(ended(m), ok)
	}
	stands(t, m)
}

func numbers(below int) []string {
	var l []string
	for n := range below {
		l = append(l, fmt.Sprint(n))
	}
	return l
}

func fillObjects(m *machine.Machine) {
	for ok := true; ok; {
		_, ok = m.Heap().Make(api.KindPlain, word.Null)
	}
}

func fillTexts(m *machine.Machine) {
	for n, ok := 0, true; ok; n++ {
		_, ok = m.Heap().Text(fmt.Sprint("filled ", n))
	}
}

// P17.2: whatever needs another object ends, when there is none; what needs none goes on.
func TestNoObjects(t *testing.T) {
	for _, k := range []struct{ s, end string }{
		{`1 + 2; print("a" + 1, typeof print, Object(print), Math.max(1, 2), (5).toString(), "abc"[1]);`, "done"},
		{`({});`, "memory"},
		{`[];`, "memory"},
		{`(function () {});`, "memory"},
		{`(function* () {});`, "memory"},
		{`let a; (function () { a; });`, "memory"},
		{`null.x;`, "memory"},
		{`try { x; } catch (e) { print(e); } let x;`, "memory"},
		{`throw 1;`, "thrown 1"},
		{`Object();`, "memory"},
		{`new Object();`, "memory"},
		{`Array();`, "memory"},
		{`Object.create(null);`, "memory"},
		{`Object.keys(print);`, "memory"},
		{`Object.getOwnPropertyDescriptor(Object, "keys");`, "memory"},
		{`Error("x");`, "memory"},
		{`new TypeError();`, "memory"},
		{`"ab"["$$iterator"]();`, "memory"},
		{`Function();`, "memory"},
		{`Math + "";`, "done"},
		{`new String("x");`, "memory"},
	} {
		m := load(t, k.s)
		fillObjects(m)
		run(m, plenty)
		if ended(m) != k.end {
			t.Errorf("%s: %s, %q", k.s, ended(m), m.Log())
		}
		stands(t, m)
	}
}

// P17.2: a generator that waits or runs, when there are no more objects, and no more texts.
func TestNoRoomWithin(t *testing.T) {
	for _, s := range []string{
		`function* g() { yield 1; } let i = g(); print("now"); i.next();`,
		`function* g() { yield 1; } let i = g(); print("now"); i.return(1);`,
		`function* g() { return 1; } let i = g(); print("now"); try { i.next(); } finally { print("never"); }`,
		`function* g() { yield 1; } let i = g(); i.next(); print("now"); i.next();`,
		`function f() { return {}; } print("now"); try { f(); } catch (e) { print("never"); }`,
		`function F() { } print("now"); new F();`,
		`let o = {get x() { return []; }}; print("now"); o.x;`,
		`let o = {valueOf: function () { return {}; }}; print("now"); try { o + 1; } finally { print("never"); }`,
	} {
		m := load(t, s)
		for len(m.Log()) == 0 {
			m.Step()
		}
		fillObjects(m)
		run(m, plenty)
		if ended(m) != "memory" || len(m.Log()) != 1 {
			t.Errorf("%s: %s, %q", s, ended(m), m.Log())
		}
		stands(t, m)
	}
}

// P17.2: whatever needs another text ends, when there is none.
func TestNoTexts(t *testing.T) {
	for _, k := range []struct{ s, end string }{
		{`print(1.5, true, undefined, print); ({}).x; [1, 2].length; throw 2.5;`, "thrown 2.5"},
		{`let i = 77; i + "";`, "memory"},
		{`"never met";`, "memory"},
		{`Error(55);`, "memory"},
		{`null.never;`, "memory"},
		{`(5.25).toString();`, "memory"},
		{`Math + 1;`, "memory"},
		{`[][77];`, "memory"},
		{`Object.keys(Object.create(null));`, "done"},
	} {
		m := load(t, k.s)
		fillTexts(m)
		run(m, plenty)
		if ended(m) != k.end {
			t.Errorf("%s: %s, %q", k.s, ended(m), m.Log())
		}
	}
	m := of(t, api.Program{Funcs: []api.Func{{Regs: 1, Consts: []api.Const{{IsText: true, Text: strings.Repeat("x", api.MaxText+1)}}, Code: []api.Instr{{Op: api.OpConst}, {Op: api.OpReturn}}}}})
	if !m.Step() || ended(m) != "memory" || m.Count() != 1 {
		t.Error("a constant that is too long:", ended(m))
	}
}
