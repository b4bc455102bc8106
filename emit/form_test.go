package emit_test

import (
	"fmt"
	"maps"
	"slices"
	"testing"

	"brazier/api"
	"brazier/code"
)

// forms is what P9.2 asks of a program's code: how often there is an instruction of each sign, and of each text that is a member's key; the functions; the texts of each of them.
type forms struct {
	ops        map[int]int
	gets, sets map[string]int
	functions  []string
	texts      []map[string]int
	here       map[string]int // those of the function that is being gone through
}

func newForms() *forms {
	return &forms{ops: map[int]int{}, gets: map[string]int{}, sets: map[string]int{}}
}

var opOf = map[string]int{"neg": api.OpNeg, "~": api.OpBitNot, "++": api.OpAdd, "--": api.OpSub}

func init() {
	for op, sign := range signOf {
		opOf[sign] = op
	}
}

func (x *forms) sign(sign string) {
	if op, ok := opOf[sign]; ok {
		x.ops[op]++
	}
}

// function takes in one of the tree; body is what stands in it.
func (x *forms) function(params int, generator bool, body []api.Node) {
	around := x.here
	x.here = map[string]int{}
	x.functions = append(x.functions, fmt.Sprint(params, generator))
	x.texts = append(x.texts, x.here)
	for _, n := range body {
		x.node(n)
	}
	x.here = around
}

func (x *forms) node(n api.Node) {
	switch n.Kind {
	case api.NodeFunction, api.NodeDeclare:
		last := len(n.Kids) - 1
		x.function(last, n.Op == "*", n.Kids[last:])
		return
	case api.NodeString:
		x.here[n.Name]++
	case api.NodeBinary:
		x.sign(n.Op)
	case api.NodeUnary:
		if n.Op == "~" {
			x.sign(n.Op)
		}
		if n.Op == "-" {
			x.sign("neg")
		}
		if n.Op == "delete" {
			x.target(n.Kids[0], false, false)
			return
		}
	case api.NodeMember:
		x.target(n, true, false)
		return
	case api.NodeUpdate:
		x.sign(n.Op)
		x.target(n.Kids[0], true, true)
		return
	case api.NodeAssign:
		if n.Op != "=" {
			x.sign(n.Op[:len(n.Op)-1])
		}
		x.target(n.Kids[0], n.Op != "=", true)
		x.node(n.Kids[1])
		return
	}
	for _, k := range n.Kids {
		x.node(k)
	}
}

// target is a member (or something else) that is read, given, both, or neither.
func (x *forms) target(n api.Node, get, set bool) {
	if n.Kind != api.NodeMember {
		x.node(n)
		return
	}
	if key := n.Kids[1]; key.Kind == api.NodeString {
		if get {
			x.gets[key.Name]++
		}
		if set {
			x.sets[key.Name]++
		}
	}
	for _, k := range n.Kids {
		x.node(k)
	}
}

// formsOf is what a tree asks for.
func formsOf(n api.Node) *forms {
	x := newForms()
	x.function(0, false, n.Kids)
	return x
}

// formsIn is what code has.
func formsIn(p api.Program) *forms {
	x := newForms()
	for _, f := range p.Funcs {
		x.functions = append(x.functions, fmt.Sprint(f.Params, f.Generator))
		texts := map[string]int{}
		for _, c := range f.Consts {
			if c.IsText {
				texts[c.Text]++
			}
		}
		x.texts = append(x.texts, texts)
		for _, i := range f.Code {
			switch {
			case i.Op == api.OpGetNamed:
				x.gets[f.Consts[i.C].Text]++
			case i.Op == api.OpSetNamed:
				x.sets[f.Consts[i.B].Text]++
			case i.Op == api.OpNeg || i.Op == api.OpBitNot || i.Op >= api.OpAdd && i.Op <= api.OpNotSame:
				x.ops[i.Op]++
			}
		}
	}
	return x
}

// holds: code has what its tree asks for.
func holds(t *testing.T, s string, n api.Node, names api.Scoped, p api.Program) {
	t.Helper()
	want, got := formsOf(n), formsIn(p)
	if !maps.Equal(want.ops, got.ops) || !maps.Equal(want.gets, got.gets) || !maps.Equal(want.sets, got.sets) {
		t.Fatalf("%s\nsigns %v, read %v, given %v\nwant %v, %v, %v", s, got.ops, got.gets, got.sets, want.ops, want.gets, want.sets)
	}
	if len(got.functions) != len(want.functions) || got.functions[0] != want.functions[0] {
		t.Fatalf("%s\nfunctions %v, want %v", s, got.functions, want.functions)
	}
	slices.Sort(want.functions)
	slices.Sort(got.functions)
	if !slices.Equal(want.functions, got.functions) {
		t.Fatalf("%s\nfunctions %v, want %v", s, got.functions, want.functions)
	}
	for _, texts := range want.texts {
		if !slices.ContainsFunc(got.texts, func(has map[string]int) bool { return within(texts, has) }) {
			t.Fatalf("%s\nno function has all of %v", s, texts)
		}
	}
	takesAlong(t, s, names, p)
}

func within(texts, has map[string]int) bool {
	for text := range texts {
		if has[text] != 1 {
			return false
		}
	}
	return true
}

// takesAlong: no function takes one box along twice, or more than there are captured variables.
func takesAlong(t *testing.T, s string, names api.Scoped, p api.Program) {
	t.Helper()
	captured := 0
	for _, v := range names.Vars {
		if v.Captured {
			captured++
		}
	}
	for _, f := range p.Funcs {
		seen := map[api.Capture]bool{}
		for _, c := range f.Captures {
			if seen[c] {
				t.Fatalf("%s\n%v twice", s, c)
			}
			seen[c] = true
		}
		if len(f.Captures) > captured {
			t.Fatalf("%s\n%d captures, %d variables are captured", s, len(f.Captures), captured)
		}
	}
}

// P9.2: each kind of statement and expression.
func TestForms(t *testing.T) {
	for _, s := range []string{
		"", "1;", `"a"; "a"; "b";`, `let a = {"x": "y", x: 1, ["z"]: 2, 3: "w", get v() { return "v"; }};`,
		`let a = 1; a + a - a * a / a % a; a << a >> a >>> a; a & a | a ^ a; a < a; a <= a; a > a; a >= a; a == a; a != a; a === a; a !== a; a in a; a instanceof a;`,
		`let a = 1; a += a; a -= a; a *= a; a /= a; a %= a; a <<= a; a >>= a; a >>>= a; a &= a; a |= a; a ^= a; a = a;`,
		`let a = 1; a++; ++a; a--; --a; -a; +a; ~a; !a; typeof a; void a; delete 1;`,
		`let a = 1; a.b; a["b"]; a[a]; a.b = 1; a["b"] = 2; a[a] = 3; a.b += 1; a["b"]++; --a.b; a[a] -= 1; a[a]--; delete a.b; delete a["b"]; delete a[a]; a.b(); a["b"](1); a[a](); new a.b(1); a.b.c.b = a.b.c;`,
		`let a = 1; try { a === 1; a.x; } catch (e) { e.x === 1; } finally { a === 2; a.x = 3; a.y; }`,
		`function f(a) { for (;;) { try { if (a === 1) { return a.x; } if (a === 2) { break; } if (a === 3) { continue; } } finally { a.y += 1; } } } function* g(a, b, c) { try { yield a === b; } finally { yield c.z; } }`,
		`for (const x of [1]) { x.next; x.done; x.value === 1; }`,
		`let a = 1; function f() { return function () { return function* (b) { return a + b + a; }; }; }`,
		`let a = {f: function (b) { return a.f(b.f); }, get g() { return "s"; }, set g(v) { "s2"; }};`,
		`function f(a) { return function () { return a + function () { return a; }(); }; }`,
	} {
		n, names := tree(t, s)
		holds(t, s, n, names, codeOf(t, s, n, names))
	}
}

// P9.2: of programs that are made by chance.
func TestFormsByChance(t *testing.T) {
	t.Parallel()
	made(77, 800, 90, func(s string) {
		n, names := tree(t, s)
		holds(t, s, n, names, codeOf(t, s, n, names))
	})
}

// P9.2: Funcs 0 is the program itself.
func TestFirst(t *testing.T) {
	p := emitted(t, `let a = 1; function f(x, y) { "f"; return a; } function* g(z) { "g"; } (function () { "h"; }); print("main");`)
	if len(p.Funcs) != 4 {
		t.Fatal(len(p.Funcs))
	}
	want := map[string]string{"main": "0 false 0", "f": "2 false 1", "g": "1 true 0", "h": "0 false 0"}
	for i, f := range p.Funcs {
		for _, c := range f.Consts {
			if w, ok := want[c.Text]; ok && (w != fmt.Sprint(f.Params, f.Generator, len(f.Captures)) || (c.Text == "main") != (i == 0)) {
				t.Error(i, c.Text, f.Params, f.Generator, f.Captures)
			}
			delete(want, c.Text)
		}
	}
	if len(want) > 0 {
		t.Error("not there:", want)
	}
}

// P9.2: what is taken along is what the function, and those within it, use.
func TestCaptures(t *testing.T) {
	for s, want := range map[string]int{
		`let a = 1; function f() { "here"; return a; }`:                                                            1,
		`let a = 1; function f() { "here"; return a + a + a; }`:                                                    1,
		`let a = 1; function f() { "here"; return function () { return a; }; }`:                                    1,
		`let a = 1; function f() { "here"; return a + function () { return a; }(); }`:                              1,
		`let a = 1; let b = 2; function f() { "here"; return a + b; }`:                                             2,
		`let a = 1; function f(b) { "here"; return function () { return a + b; }; }`:                               1,
		`let a = 1; function f(b) { return function () { "here"; return a + b; }; }`:                               2,
		`function f() { "here"; return f; }`:                                                                       1,
		`let x = function f() { "here"; return f; };`:                                                              0,
		`let x = function f() { return function () { "here"; return f; }; };`:                                      1,
		`let a = 1; function f() { "here"; let a = 2; return a; }`:                                                 0,
		`let a = 1; function f() { "here"; { let a = 2; } return a; }`:                                             1,
		`function f() { "here"; return print; }`:                                                                   0,
		`let a = 1; function f() { "here"; a = 2; a++; a += 1; }`:                                                  1,
		`let a = 1; function f(b) { return function (c) { "here"; return function (d) { return a + b + d; }; }; }`: 2,
	} {
		met := false
		for _, f := range emitted(t, s).Funcs {
			if slices.Contains(f.Consts, api.Const{IsText: true, Text: "here"}) {
				met = true
				if len(f.Captures) != want {
					t.Errorf("%s: takes along %v, want %d", s, f.Captures, want)
				}
			}
		}
		if !met {
			t.Error(s)
		}
	}
}

// P9.2: the same text, the same number twice: one constant.
func TestConstantsOnce(t *testing.T) {
	p := emitted(t, `let a = ["x", "x", 1, 1, "1", 0, -0]; a.x; a["x"]; a.x = 1; delete a.x; a++; print({x: "x"});`)
	seen := map[api.Const]bool{}
	for _, c := range p.Funcs[0].Consts {
		if seen[c] {
			t.Error("twice:", c)
		}
		seen[c] = true
	}
	if len(seen) != 4 {
		t.Error(seen)
	}
}

// P9.1: a text is a key as it is.
func TestTextKeys(t *testing.T) {
	p := emitted(t, `let a = {x: 1, "y": 2, get z() { return 3; }}; a.x; a["y"]; a.x = 1; delete a.x; delete a["y"]; a.z(); a["z"](); a.x++;`)
	prims := 0
	for _, i := range p.Funcs[0].Code {
		if i.Op == api.OpPrim {
			prims++
		}
		if i.Op == api.OpText {
			t.Error("a text is made a key")
		}
	}
	if prims != 1 {
		t.Error(prims)
	}
}

// P9.1: the numbers of a tree are constants bit by bit.
func TestNumbers(t *testing.T) {
	for _, bits := range []uint64{0, 1, 1 << 63, 0x3ff0000000000000, 0x7ff0000000000000, 0x7ff8000000000000, 0x7ff8000000000001, 0xfffa000000000001, 1<<64 - 1} {
		n := program(node(api.NodeExpr, api.Node{Kind: api.NodeNumber, Num: bits}))
		p := codeOf(t, "a number", n, resolved(t, "a number", n))
		if c := p.Funcs[0].Consts; len(c) != 1 || c[0] != (api.Const{Bits: bits}) {
			t.Errorf("%x: %v", bits, c)
		}
	}
}

// P9.1, P8.4: code that may be goes on within itself; no place that a jump goes to lies behind the end.
func TestFlows(t *testing.T) {
	t.Parallel()
	made(5, 300, 90, func(s string) {
		for _, f := range emitted(t, s).Funcs {
			for at, i := range f.Code {
				if i.Op != api.OpReturn && i.Op != api.OpThrow && len(code.Next(f, at)) == 0 {
					t.Fatalf("%d: %v of %d\n%s", at, i, len(f.Code), s)
				}
			}
		}
	})
}
