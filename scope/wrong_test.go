package scope_test

import (
	"testing"

	"brazier/api"
)

// P7.3: ErrScopeTwice, at the later one's place: a block has the name already.
func TestTwice(t *testing.T) {
	for _, s := range []string{
		"let a; |let a;", "let a; |const a = 1;", "const a = 1; |let a;", "let a; |function a() { }", "function a() { } |function a() { }", "function a() { } |let a;",
		"let a; ; { } |let a; let a;",
		"{ let a; |let a; }", "{ { let a; } let b; |const b = 1; }",
		"function f(a, |a) { }", "function f(a, b, c, |b) { }", "(function (a, |a) { });", "({set x(a) { |let a; }});", "({get x(a, |a) { }});",
		"function f(a) { |let a; }", "function f(a) { |function a() { } }", "function f(a) { let b; |const a = 1; }", "function* f(a) { |let a; }",
		"(function f() { let a; |let a; });", "(function f(f) { |let f; });", "(function f() { let f; |let f; });",
		"try { } catch (e) { |let e; }", "try { } catch (e) { |const e = 1; }", "try { } catch (e) { let a; |function e() { } }",
		"try { let a; |let a; } finally { }", "try { } catch (e) { } finally { let a; |let a; }",
		"for (let x of 1) { let y; |let y; }", "if (1) { let a; |let a; }", "while (1) { let a; |let a; }", "a: { let a; |let a; }",
		"let print; |let print;", "function print() { } |const print = 1;",
	} {
		wrongHere(t, s, api.ErrScopeTwice)
	}
}

// P7.3: ErrScopeName: no block around has it, and it is no builtin.
func TestNoName(t *testing.T) {
	for _, s := range []string{
		"|a;", "|a.b;", "print(|a);", "|a = 1;", "|a++;", "--|a;", "|a += 1;", "let a = |b;", "const a = |b;", "typeof |a;",
		"{ let a; } |a;", "{ let a; } { |a; }", "function f() { let a; } |a;", "function f(a) { } |a;", "(function (a) { |b; });",
		"(function f() { }); |f;", "try { } catch (e) { } |e;", "try { |e; } catch (e) { }", "try { } catch (e) { } finally { |e; }",
		"for (let x of 1) { } |x;", "for (let x of |x) { }", "for (let x of 1) { let y; } |y;", "for (;; |x) { let x; }", "while (|x) { let x; }",
		"{ function f() { } } |f;", "a: |a;", "if (1) { let a; } else |a;", "({[|a]: 1});", "({a: |a});", "({get a() { return |a; }});",
		"|Print;", "|object;", "|Symbol;", "|infinity;", "|a.print;", "let a; a[|b];", "function* g() { yield |a; }", "throw |a;",
		"(function () { return |a; });", "new |a;", "[1, |a];", "|a ? b : c;",
		"let print1; |print2;", "print(1, |prin);",
	} {
		wrongHere(t, s, api.ErrScopeName)
	}
}

// P7.3: ErrScopeConst: nothing can be given to a builtin, a const, a function's own name.
func TestConst(t *testing.T) {
	for _, s := range []string{
		"const a = 1; |a = 1;", "const a = 1; |a += 1;", "const a = 1; |a++;", "const a = 1; --|a;", "|a = 1; const a = 1;",
		"const a = 1; { |a = 1; }", "const a = 1; (function () { |a = 1; });", "for (const x of 1) |x = 1;", "for (const x of 1) { |x++; }",
		"for (const x of 1) { (function () { ++|x; }); }",
		"(function f() { |f = 1; });", "(function f() { |f++; });", "(function f() { (function () { |f >>>= 1; }); });", "(function* f(a) { |f = a; });",
		"let f; (function f() { |f = 1; });",
		"|print = 1;", "|NaN++;", "--|Infinity;", "(function () { |Object = 1; });", "let a; a = |Math = 1;", "|print ^= 1;",
		"{ let print; } |print = 1;", "let a; const b = 1; a = |b = 2;",
		"let a; { const a = 1; |a = 2; }", "(function f() { { |f = 1; } let g; });",
	} {
		wrongHere(t, s, api.ErrScopeConst)
	}
	for _, name := range builtins {
		wrongHere(t, "|"+name+" = 1;", api.ErrScopeConst)
		wrongHere(t, "(function () { "+"|"+name+"--; });", api.ErrScopeConst)
	}
}

// P7.3: ErrScopeJump of break and continue: no loop, no label of that name, around it in this function.
func TestNoJump(t *testing.T) {
	for _, s := range []string{
		"|break;", "|continue;", "{ |break; }", "if (1) |continue;", "a: |break;", "a: { |continue; }", "a: b: { |break; }",
		"while (1) ; |break;", "while (1) { } |continue;", "for (;;) ; |break;", "for (let x of 1) ; |break;", "try { |break; } finally { }",
		"while (1) (function () { |break; });", "for (;;) { function f() { |continue; } }", "for (let x of 1) { ({get a() { |break; }}); }",
		"for (let x of function () { |break; }) ;", "while (function () { |break; }) ;", "for (;; function () { |continue; }) ;",
		"while (1) { (function () { while (1) ; |break; }); }",
		"function f() { while (1) ; } |break;", "a: (function () { |break a; });", "a: while (1) (function () { |continue a; });",
		"|break a;", "|continue a;", "a: ; |break a;", "a: { } |break a;", "a: { b: { } |break b; }", "b: { |break a; }",
		"while (1) |break a;", "while (1) |continue a;", "a: while (1) |continue b;", "let a; |break a;", "while (1) { a: ; |break a; }",
		"a: |continue a;", "a: { |continue a; }", "a: { while (1) { |continue a; } }", "a: if (1) while (1) |continue a;", "a: b: { |continue a; }", "a: b: { |continue b; }",
		"a: while (1) { b: { |continue b; } }", "a: try { |continue a; } finally { }", "a: { b: while (1) { |continue a; } }", "a: b: { c: while (1) |continue b; }",
		"a: while (1) { b: c: { while (1) |continue c; } }", "a: { while (1) ; |continue a; }",
		"while (1) { a: ; } |continue;", "a: while (1) ; |continue a;",
	} {
		wrongHere(t, s, api.ErrScopeJump)
	}
}

// P7.3: ErrScopeJump of a label: one of that name is around it in this function.
func TestLabelTwice(t *testing.T) {
	for _, s := range []string{
		"a: |a: ;", "a: { |a: ; }", "a: b: |a: ;", "a: while (1) { |a: ; }", "a: while (1) |a: while (1) ;", "a: { b: { |a: { } } }",
		"a: if (1) ; else |a: ;", "a: try { } finally { |a: ; }", "a: try { } catch (e) { |a: ; } finally { }", "a: for (let x of 1) |a: ;", "a: for (;;) |a: ;",
		"function f() { a: |a: ; }", "a: (function () { b: |b: ; });", "(function () { a: { |a: ; } });", "a: ; a: b: |b: ;",
	} {
		wrongHere(t, s, api.ErrScopeJump)
	}
}

// P7.3: ErrScopeReturn: in no function.
func TestNoReturn(t *testing.T) {
	for _, s := range []string{
		"|return;", "|return 1;", "{ |return; }", "while (1) |return;", "a: |return;", "try { |return; } finally { }", "try { } catch (e) { |return e; }",
		"if (1) ; else |return;", "for (let x of 1) { |return x; }", "function f() { return; } |return;", "(function () { return; }); |return 2;",
	} {
		wrongHere(t, s, api.ErrScopeReturn)
	}
}

// P7.3: which of two is told: what is met first.
func TestWhichIsTold(t *testing.T) {
	for s, e := range map[string]api.Errno{
		// A block's names come ahead of its statements.
		"a; return; break; let b; |let b;":           api.ErrScopeTwice,
		"a: a: ; let b; |let b;":                     api.ErrScopeTwice,
		"{ a; { let c; let c; } let b; |let b; } x;": api.ErrScopeTwice,
		"let b; |let b; let c; let c;":               api.ErrScopeTwice,
		"{ let b; |let b; } { let c; let c; }":       api.ErrScopeTwice,
		"|a; { let b; let b; }":                      api.ErrScopeName,
		"|a; function f(b, b) { }":                   api.ErrScopeName,
		"function f(b, |b) { a; } a;":                api.ErrScopeTwice,
		"function f(b) { a; |let b; let b; }":        api.ErrScopeTwice,
		"function f(b, |b) { let c; let c; }":        api.ErrScopeTwice,
		"try { |a; } catch (e) { let e; }":           api.ErrScopeName,
		"try { } catch (e) { a; |let e; }":           api.ErrScopeTwice,
		"try { } catch (e) { |a; } finally { b; }":   api.ErrScopeName,
		// From the left.
		"|a; b;":                      api.ErrScopeName,
		"|a + b;":                     api.ErrScopeName,
		"|a; return;":                 api.ErrScopeName,
		"|return; a;":                 api.ErrScopeReturn,
		"|break; return;":             api.ErrScopeJump,
		"a: |a: b;":                   api.ErrScopeJump,
		"a: |b.c = break_;":           api.ErrScopeName,
		"if (|a) break;":              api.ErrScopeName,
		"if (1) |break; else return;": api.ErrScopeJump,
		"while (|a) return;":          api.ErrScopeName,
		"for (let x of |y) return;":   api.ErrScopeName,
		"for (|a; b; c) d;":           api.ErrScopeName,
		"for (;; |c) d;":              api.ErrScopeName,
		"[|a, b];":                    api.ErrScopeName,
		"({[|a]: b});":                api.ErrScopeName,
		"|a[b];":                      api.ErrScopeName,
		"|a(b);":                      api.ErrScopeName,
		"|a ? b : c;":                 api.ErrScopeName,
		"(function () { |a; }); b;":   api.ErrScopeName,
		// A return ahead of its expression.
		"|return a;":                          api.ErrScopeReturn,
		"|return function (a, a) { };":        api.ErrScopeReturn,
		"function f() { return |a; } return;": api.ErrScopeName,
		// What is given: the name, whether it is there, whether something can be given to it; then the rest.
		"|a = b;":                     api.ErrScopeName,
		"const a = 1; |a = b;":        api.ErrScopeConst,
		"|print = b;":                 api.ErrScopeConst,
		"let a; a = |b;":              api.ErrScopeName,
		"|a = print = 1;":             api.ErrScopeName,
		"|print = a = 1;":             api.ErrScopeConst,
		"print[|a] = b;":              api.ErrScopeName,
		"print[|print = 1] = b;":      api.ErrScopeConst,
		"const a = |b; a = 1;":        api.ErrScopeName,
		"const a = 1; a[|a = 1] = b;": api.ErrScopeConst,
	} {
		wrongHere(t, s, e)
	}
}
