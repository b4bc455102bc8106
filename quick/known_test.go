package quick_test

import (
	"slices"
	"testing"

	"brazier/api"
)

// at is what is known at a place of a program in the end.
type at struct {
	s       string
	op      int
	key     string
	n       int // which of those places
	state   int
	entries int
	looked  int
	turned  int
}

// P18.4, P18.5, P18.9: what is known at a place in the end.
func TestSites(t *testing.T) {
	get, set := api.OpGetNamed, api.OpSetNamed
	read := "function f(o) { try { return o.a; } catch (e) { return e; } } function all(l) { for (const o of l) { f(o); f(o); } } "
	write := "function f(o) { try { o.a = 1; } catch (e) { } } function all(l) { for (const o of l) { f(o); f(o); } } "
	for _, k := range []at{
		{"let o = {a: 1}; let i = 0; while (i < 5) { i += o.a; }", get, "a", 0, api.SiteOne, 1, 1, 1},
		{"let o = {a: 1}; if (o.b) { o.a; }", get, "a", 0, api.SiteNew, 0, 0, 0},
		{read + "all([{a: 1}]);", get, "a", 0, api.SiteOne, 1, 1, 1},
		{read + "all([{a: 1}, {a: 2}, {a: 3}]);", get, "a", 0, api.SiteOne, 1, 1, 1},
		{read + "all([{a: 1}, {b: 1, a: 2}]);", get, "a", 0, api.SiteFew, 2, 2, 2},
		{read + "let l = [{a: 1}, {b: 1, a: 2}, {c: 1, a: 2}, {d: 1, a: 2}]; all(l); all(l);", get, "a", 0, api.SiteFew, 4, 4, 4},
		{read + "let l = [{a: 1}, {b: 1, a: 2}, {c: 1, a: 2}, {d: 1, a: 2}, {e: 1, a: 2}]; all(l);", get, "a", 0, api.SiteMany, 0, 6, 5},
		{read + "let l = [{a: 1}, {b: 1, a: 2}, {c: 1, a: 2}, {d: 1, a: 2}, {e: 1, a: 2}]; all(l); all(l);", get, "a", 0, api.SiteMany, 0, 16, 5},
		// a prototype's, and further above; two objects of one shape
		{read + "let top = {a: 1}; all([Object.create(top), Object.create(top)]);", get, "a", 0, api.SiteOne, 1, 1, 1},
		{read + "let top = {a: 1}; let mid = Object.create(top); let o = Object.create(mid); all([o, mid, top, o, mid, top]);", get, "a", 0, api.SiteFew, 3, 3, 3},
		// what breaks is learnt anew, in the place of what broke
		{read + "let top = {a: 1}; let o = Object.create(top); all([o]); top.a = 2; all([o]); top.b = 3; all([o]);", get, "a", 0, api.SiteOne, 1, 3, 3},
		{read + "let top = {a: 1}; let o = Object.create(top); all([o, {a: 1}]); top.a = 2; all([o, {a: 1}]); delete top.b; all([o]);", get, "a", 0, api.SiteFew, 2, 3, 3},
		{read + "let top = {a: 1}; let mid = Object.create(top); let o = Object.create(mid); all([o]); mid.a = 2; all([o]); Object.setPrototypeOf(mid, null); all([o]);", get, "a", 0, api.SiteOne, 1, 3, 3},
		{read + "let top = {a: 1}; let o = Object.create(top); all([o, {a: 1}]); top.a = 2; all([{a: 1}, {b: 1, a: 2}]);", get, "a", 0, api.SiteFew, 2, 3, 3},
		// no shape: the object, one between, the holder; one above the holder does not matter
		{read + "let o = {a: 1, b: 1}; delete o.b; all([o]);", get, "a", 0, api.SiteNew, 0, 2, 0},
		{read + "let top = {a: 1}; let mid = Object.create(top); mid.b = 1; delete mid.b; all([Object.create(mid)]);", get, "a", 0, api.SiteNew, 0, 2, 0},
		{read + "let top = {a: 1, b: 1}; delete top.b; all([Object.create(top)]);", get, "a", 0, api.SiteNew, 0, 2, 0},
		{read + "let top = {a: 1, b: 1}; delete top.b; all([{a: 1}, Object.setPrototypeOf({a: 2}, top)]);", get, "a", 0, api.SiteFew, 2, 2, 2},
		{read + "let top = {b: 1}; delete top.b; let mid = Object.create(top); mid.a = 1; all([Object.create(mid)]);", get, "a", 0, api.SiteOne, 1, 1, 1},
		// not found, accessors, no objects
		{read + "all([{b: 1}, Object.create(null)]);", get, "a", 0, api.SiteNew, 0, 4, 0},
		{read + "all([{get a() { return 1; }}, Object.create({get a() { return 1; }}), {set a(x) { }}]);", get, "a", 0, api.SiteNew, 0, 6, 0},
		{read + "all([1, \"t\", true, null, undefined, 0.5]);", get, "a", 0, api.SiteNew, 0, 12, 0},
		{read + "all([{a: 1}, 1, {b: 1}, {get a() { return 1; }}, {a: 1}]);", get, "a", 0, api.SiteOne, 1, 7, 1},
		// an array keeps its length elsewhere, and what stands above an array's length is not asked; other names it keeps as all do
		{"let l = [1, 2]; let i = 0; while (i < 5) { l.length; i++; }", get, "length", 0, api.SiteNew, 0, 5, 0},
		{"let l = Object.create([1, 2]); let i = 0; while (i < 5) { l.length; i++; }", get, "length", 0, api.SiteNew, 0, 5, 0},
		{"let l = Object.create({length: 1}); let i = 0; while (i < 5) { l.length; i++; }", get, "length", 0, api.SiteOne, 1, 1, 1},
		{"let l = []; let i = 0; while (i < 5) { l.push(i); i++; }", get, "push", 0, api.SiteOne, 1, 1, 1},
		{read + "let l = [1]; l.a = 1; all([l, Object.create(l)]);", get, "a", 0, api.SiteFew, 2, 2, 2},
		// written: their own data that is Writable
		{write + "all([{a: 1}, {a: 2}]);", set, "a", 0, api.SiteOne, 1, 1, 1},
		{write + "let l = [{a: 1}, {b: 1, a: 2}, {c: 1, a: 2}, {d: 1, a: 2}]; all(l); all(l);", set, "a", 0, api.SiteFew, 4, 4, 4},
		{write + "let l = [{a: 1}, {b: 1, a: 2}, {c: 1, a: 2}, {d: 1, a: 2}, {e: 1, a: 2}]; all(l);", set, "a", 0, api.SiteMany, 0, 6, 5},
		{write + "all([{}, {}]);", set, "a", 0, api.SiteOne, 1, 3, 1}, // the first time it is not there; what is laid then has a shape
		{write + "all([Object.create({a: 1}), Object.create({a: 2})]);", set, "a", 0, api.SiteFew, 2, 4, 2},
		{write + "all([{get a() { return 1; }, set a(x) { }}, Object.create({set a(x) { }})]);", set, "a", 0, api.SiteNew, 0, 4, 0},
		{write + "all([Object.defineProperty({}, \"a\", {value: 1})]);", set, "a", 0, api.SiteNew, 0, 2, 0},
		{write + "all([Object.defineProperty({}, \"a\", {value: 1, writable: true})]);", set, "a", 0, api.SiteOne, 1, 1, 1},
		{write + "all([Object.preventExtensions({a: 1}), Object.preventExtensions({b: 1})]);", set, "a", 0, api.SiteOne, 1, 3, 1},
		{write + "all([1, \"t\", true, null, undefined, 0.5]);", set, "a", 0, api.SiteNew, 0, 12, 0},
		{write + "let o = {a: 1, b: 1}; delete o.b; all([o]);", set, "a", 0, api.SiteNew, 0, 2, 0},
		{"let l = [1, 2]; let i = 0; while (i < 5) { l.length = i; i++; }", set, "length", 0, api.SiteNew, 0, 5, 0},
		{"let o = {length: 2}; let i = 0; while (i < 5) { o.length = i; i++; }", set, "length", 0, api.SiteOne, 1, 1, 1},
		// one place knows nothing of another
		{"let o = {a: 1}; o.a; o.a; o.a = 1;", get, "a", 1, api.SiteOne, 1, 1, 1},
		{"let o = {a: 1}; o.a; o.a; o.a = 1;", set, "a", 0, api.SiteOne, 1, 1, 1},
		// each turn makes a shape: MaxFast is passed
		{"let o = {a: 1}; let i = 0; while (i < 20) { o.a; o[\"k\" + i] = 1; i++; }", get, "a", 0, api.SiteMany, 0, 20, 5},
		{"let o = {a: 1}; let i = 0; while (i < 20) { o[\"k\" + i] = 1; i++; } o.a; o.a = 2;", get, "a", 0, api.SiteNew, 0, 1, 0},
	} {
		for _, most := range []int{1, 2, 3, 99} {
			b := load(t, k.s).run(10, most)
			at := b.place(k.op, k.key, k.n)
			s := b.q.Site(at.fn, at.pc)
			if s.State != k.state || len(s.Entries) != k.entries || b.q.Looked(at.fn, at.pc) != k.looked || b.q.Turned(at.fn, at.pc) != k.turned {
				t.Errorf("%s\nby %d: %v, Looked %d, Turned %d; want state %d, %d entries, %d, %d", k.s, most, s, b.q.Looked(at.fn, at.pc), b.q.Turned(at.fn, at.pc), k.state, k.entries, k.looked, k.turned)
			}
		}
	}
}

// P18.4: what an entry says: {shape, 0, slot, -1} of an own property; {shape, whose and 1, slot there, the guard of the object's prototype} of one further above.
func TestEntries(t *testing.T) {
	b := load(t, "let top = {x: 1, a: 1}; let mid = Object.create(top); let o = Object.create(mid); let own = {y: 1, z: 1, a: 2}; function f(o) { return o.a; } f(own); f(o); f(mid); f(top); f(o);").run(1, 1)
	at := b.place(api.OpGetNamed, "a", 0)
	s := b.q.Site(at.fn, at.pc)
	h := b.m.Heap()
	own, _ := h.Text("z")
	if _, ok := h.TextOf(own); !ok || s.State != api.SiteFew || len(s.Entries) != 4 {
		t.Fatal(s)
	}
	if e := s.Entries[0]; e.Holder != 0 || e.Slot != 2 || e.Cell != -1 {
		t.Error(e)
	}
	o, mid, top := s.Entries[1], s.Entries[2], s.Entries[3]
	if o.Holder == 0 || o.Holder != mid.Holder || o.Slot != 1 || mid.Slot != 1 || !h.Valid(o.Cell) || !h.Valid(mid.Cell) || o.Cell == mid.Cell {
		t.Error(o, mid)
	}
	if top.Holder != 0 || top.Slot != 1 || top.Cell != -1 {
		t.Error(top)
	}
}

// P18.4, P18.5: what arithmetic and calls know in the end.
func TestArithAndCalls(t *testing.T) {
	for _, k := range []struct {
		s             string
		op            int
		state, turned int
	}{
		{"function f(a, b) { return a + b; } f(1, 2); f(3, 4);", api.OpAdd, api.ArithInt, 1},
		{"function f(a, b) { return a + b; } f(2147483647, 2); f(-1, -2147483648); f(1, 1);", api.OpAdd, api.ArithInt, 1},
		{"function f(a, b) { return a + b; } f(1, 2); f(3, 0.5); f(1, 2); f(0.5, 0.5);", api.OpAdd, api.ArithNum, 2},
		{"function f(a, b) { return a + b; } f(0.5, 2); f(1, 2);", api.OpAdd, api.ArithNum, 1},
		{"function f(a, b) { return a + b; } f(1, 2); f(0.5, 2); f(\"a\", 2); f(1, 2); f(0.5, 1);", api.OpAdd, api.ArithAny, 3},
		{"function f(a, b) { return a + b; } f(1, true); f(1, 2);", api.OpAdd, api.ArithAny, 1},
		{"function f(a, b) { return a + b; } f(1, 2); f(\"a\", 2);", api.OpAdd, api.ArithAny, 2},
		{"function f(a, b) { return a + b; } f(null, undefined); f({}, 1);", api.OpAdd, api.ArithAny, 1},
		{"function f(a, b) { return a + b; }", api.OpAdd, api.ArithNew, 0},
		{"function f(a, b) { return a + b; } f(-0, 1);", api.OpAdd, api.ArithNum, 1},
		{"function f(a, b) { return a / b; } f(1, 2); f(4, 2); f(1, 0);", api.OpDiv, api.ArithInt, 1},
		{"function f(a, b) { return a % b; } f(-4, 2); f(1, 0);", api.OpRem, api.ArithInt, 1},
		{"function f(a, b) { return a >>> b; } f(-1, 0); f(-1, 0); f(1.5, 0);", api.OpUshr, api.ArithNum, 2},
		{"function f(a, b) { return a >= b; } f(1, 0); f(NaN, 0); f(\"1\", 0);", api.OpGreaterEq, api.ArithAny, 3},
		{"function f(a, b) { return a < b; } f(1, 0); f(2, 3);", api.OpLess, api.ArithInt, 1},
		{"function f(a, b) { return a == b; } f(1, 0); f(2, 3);", api.OpEqual, api.ArithNew, 0},
		{"function f(a, b) { return a === b; } f(1, 0); f(2, 3);", api.OpSame, api.ArithNew, 0},
		{"function f(a, b) { return -a; } f(1, 0); f(2, 3);", api.OpNeg, api.ArithNew, 0},
		{"function f(g) { return g(); } function a() { } f(a); f(a);", api.OpCall, api.CallOne, 1},
		{"function f(g) { return g(); } function a() { } function b() { } f(a); f(a); f(b); f(a); f(b);", api.OpCall, api.CallMany, 2},
		{"function f(g) { return g(); } f(print); f(print);", api.OpCall, api.CallOne, 1},
		{"function f(g) { return g(); } try { f(1); } catch (e) { } f(print);", api.OpCall, api.CallMany, 2},
		{"function f(g) { return g(); } try { f(1); } catch (e) { } try { f(1); } catch (e) { }", api.OpCall, api.CallOne, 1},
		{"function f(g) { return g(); }", api.OpCall, api.CallNew, 0},
		{"function f(g) { return new g(); } function a() { } f(a);", api.OpNew, api.CallNew, 0},
		{"function f(g) { return g(); } f(function () { }); f(function () { });", api.OpCall, api.CallMany, 2},
	} {
		for _, most := range []int{1, 2, 3, 99} {
			b := load(t, k.s).run(10, most)
			at := first(b, k.op)
			state := b.q.Arith(at.fn, at.pc)
			if k.op == api.OpCall || k.op == api.OpNew {
				state = b.q.Call(at.fn, at.pc)
			}
			if state != k.state || b.q.Turned(at.fn, at.pc) != k.turned {
				t.Errorf("%s\nby %d: %d, Turned %d; want %d, %d", k.s, most, state, b.q.Turned(at.fn, at.pc), k.state, k.turned)
			}
			if b.q.Looked(at.fn, at.pc) != 0 || b.q.Site(at.fn, at.pc).State != api.SiteNew {
				t.Errorf("%s\nis a site", k.s)
			}
		}
	}
}

// first is the first place of such an instruction in the program's own functions, but for the program itself.
func first(b *both, op int) spot {
	b.t.Helper()
	for fn := ahead + 1; fn < len(b.s.p.Funcs); fn++ {
		pc := slices.IndexFunc(b.s.p.Funcs[fn].Code, func(i api.Instr) bool { return i.Op == op })
		if pc >= 0 {
			return spot{fn, pc}
		}
	}
	b.t.Fatal(b.what, "has no", op)
	return spot{}
}
