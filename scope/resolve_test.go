package scope_test

import (
	"testing"

	"brazier/api"
	"brazier/scope"
)

// P7.3: the chapter's examples.
func TestExamples(t *testing.T) {
	resolves(t, "let a; { let a; a; } a;", "0^-1:0/2", "a@0 let 0.0, a@9 let 0.1", "16>1, 21>0")
	resolves(t, "let a; function f() { return a; }", "0^-1:0/2, 7^0:0/0", "a@0 let 0.0!, f@7 function 0.1", "29>0")
	wrongHere(t, "let a; |let a;", api.ErrScopeTwice)
	wrongHere(t, "|b;", api.ErrScopeName)
	wrongHere(t, "const c = 1; |c = 2;", api.ErrScopeConst)
	wrongHere(t, "|return;", api.ErrScopeReturn)
	wrongHere(t, "|break;", api.ErrScopeJump)
}

// P7.3: the program itself is the first of Scopes.
func TestProgramItself(t *testing.T) {
	resolves(t, "", "0^-1:0/0", "", "")
	resolves(t, "  ;", "2^-1:0/0", "", "")
	resolves(t, "\n let a; let b;", "2^-1:0/2", "a@2 let 0.0, b@9 let 0.1", "")
	n := program()
	n.At, n.Name, n.Op, n.Num = -7, "x", "y", 9
	if got, at, e := scope.Resolve(n); told(got) != "-7^-1:0/0; ; " || at != 0 || e != api.OK {
		t.Error(told(got), at, e)
	}
}

// P7.3: each kind that declares.
func TestKindsOfVariables(t *testing.T) {
	resolves(t, "let a;", "0^-1:0/1", "a@0 let 0.0", "")
	resolves(t, "const a = 1;", "0^-1:0/1", "a@0 const 0.0", "")
	resolves(t, "function a() { }", "0^-1:0/1, 0^0:0/0", "a@0 function 0.0", "")
	resolves(t, "function* a(b, c) { }", "0^-1:0/1, 0^0:2/2", "a@0 function 0.0, b@12 param 1.0, c@15 param 1.1", "")
	resolves(t, "try { } catch (a) { }", "0^-1:0/1", "a@0 catch 0.0", "")
	resolves(t, "for (let a of 1) ;", "0^-1:0/1", "a@0 let 0.0", "")
	resolves(t, "for (const a of 1) ;", "0^-1:0/1", "a@0 const 0.0", "")
	resolves(t, "(function a() { });", "0^-1:0/0, 1^0:0/1", "a@1 self 1.0", "")
	resolves(t, "(function* a() { });", "0^-1:0/0, 1^0:0/1", "a@1 self 1.0", "")
	resolves(t, "(function (a) { });", "0^-1:0/0, 1^0:1/1", "a@11 param 1.0", "")
	resolves(t, "(function () { });", "0^-1:0/0, 1^0:0/0", "", "")
	resolves(t, "({get a() { }, set b(c) { }, d: 1});", "0^-1:0/0, 7^0:0/0, 20^0:1/1", "c@21 param 2.0", "")
	resolves(t, "a: ;", "0^-1:0/0", "", "")
	resolves(t, "try { } finally { }", "0^-1:0/0", "", "")
}

// P7.3: a block's names are declared ahead of its statements: first parameters, or the catch's name; then those of its own statements alone, in order.
func TestOrderOfDeclaring(t *testing.T) {
	resolves(t, "a; { let c; } b(); let a; function b() { let d; } const e = function () { let f; };",
		"0^-1:0/4, 26^0:0/1, 60^0:0/1",
		"a@19 let 0.0, b@26 function 0.1, e@50 const 0.2, c@5 let 0.3, d@41 let 1.0, f@74 let 2.0",
		"0>0, 14>1")
	resolves(t, "function f(a, b) { { let c; } let d; function e() { } const g = 1; }",
		"0^-1:0/1, 0^0:2/6, 37^1:0/0",
		"f@0 function 0.0, a@11 param 1.0, b@14 param 1.1, d@30 let 1.2, e@37 function 1.3, g@54 const 1.4, c@21 let 1.5", "")
	resolves(t, "try { let a; } catch (b) { let c; { let d; } const e = 1; } finally { let f; } let g;",
		"0^-1:0/7",
		"g@79 let 0.0, a@6 let 0.1, b@0 catch 0.2, c@27 let 0.3, e@45 const 0.4, d@36 let 0.5, f@70 let 0.6", "")
	resolves(t, "let x; { let y; { let z; } let v; } { let w; }",
		"0^-1:0/5", "x@0 let 0.0, y@9 let 0.1, v@27 let 0.2, z@18 let 0.3, w@38 let 0.4", "")
	resolves(t, "for (let a of b) { let c; } let b;", "0^-1:0/3", "b@28 let 0.0, a@0 let 0.1, c@19 let 0.2", "14>0")
	resolves(t, "function f(a) { { function g(b) { } } } ", "0^-1:0/1, 0^0:1/2, 18^1:1/1", "f@0 function 0.0, a@11 param 1.0, g@18 function 1.1, b@29 param 2.0", "")
}

// P7.3: functions are numbered in the order in which they are met, which is that of their places in the statements, whatever was declared ahead.
func TestOrderOfFunctions(t *testing.T) {
	resolves(t, "(function () { (function () { }); }); function f() { function g() { } } (function () { });",
		"0^-1:0/1, 1^0:0/0, 16^1:0/0, 38^0:0/1, 53^3:0/0, 73^0:0/0",
		"f@38 function 0.0, g@53 function 3.0", "")
	resolves(t, "let f = [function (a) { }, function (b, c) { return function (d) { }; }];",
		"0^-1:0/1, 9^0:1/1, 27^0:2/2, 52^2:1/1",
		"f@0 let 0.0, a@19 param 1.0, b@37 param 2.0, c@40 param 2.1, d@62 param 3.0", "")
	resolves(t, "({[function () { }]: function () { }, get [function () { }]() { }});",
		"0^-1:0/0, 3^0:0/0, 21^0:0/0, 43^0:0/0, 59^0:0/0", "", "")
	resolves(t, "{ function f() { } } function g() { } { (function () { }); }",
		"0^-1:0/2, 2^0:0/0, 21^0:0/0, 41^0:0/0", "g@21 function 0.0, f@2 function 0.1", "")
}

// P7.3: a function's own name: ahead of the parameters in Vars, its slot behind theirs, in a block around them.
func TestSelf(t *testing.T) {
	resolves(t, "(function f(a, b) { let c; return f; });", "0^-1:0/0, 1^0:2/4",
		"f@1 self 1.2, a@12 param 1.0, b@15 param 1.1, c@20 let 1.3", "34>0")
	resolves(t, "(function f() { let f; f; });", "0^-1:0/0, 1^0:0/2", "f@1 self 1.0, f@16 let 1.1", "23>1")
	resolves(t, "(function f(f) { f = 1; });", "0^-1:0/0, 1^0:1/2", "f@1 self 1.1, f@12 param 1.0", "17>1")
	resolves(t, "(function f() { function f() { } f = 1; });", "0^-1:0/0, 1^0:0/2, 16^1:0/0", "f@1 self 1.0, f@16 function 1.1", "33>1")
	resolves(t, "(function f() { return function () { return f; }; });", "0^-1:0/0, 1^0:0/1, 23^1:0/0", "f@1 self 1.0!", "44>0")
	resolves(t, "let f; (function f() { f; }); f;", "0^-1:0/1, 8^0:0/1", "f@0 let 0.0, f@8 self 1.0", "23>1, 30>0")
	resolves(t, "(function f() { (function f() { f; }); f; });", "0^-1:0/0, 1^0:0/1, 17^1:0/1", "f@1 self 1.0, f@17 self 2.0", "32>1, 39>0")
	// One that is declared has none: its name is the variable of the block around it.
	resolves(t, "function f(a) { f = a; }", "0^-1:0/1, 0^0:1/1", "f@0 function 0.0!, a@11 param 1.0", "16>0, 20>1")
	wrongHere(t, "(function f() { }); |f;", api.ErrScopeName)
	wrongHere(t, "let a = function f() { }; |f;", api.ErrScopeName)
}

// P7.3: the innermost block that has the name, whatever is declared behind the use.
func TestInnermost(t *testing.T) {
	uses(t, "let a; { a; }", "9>0")
	uses(t, "let a; { a; let a; }", "9>1")
	uses(t, "{ a; } let a;", "2>0")
	uses(t, "let a = a;", "8>0")
	uses(t, "const a = function () { return a; };", "31>0")
	uses(t, "let a; { { { a; } let a; } }", "13>1")
	uses(t, "let a; { let a; } { a; }", "20>0")
	uses(t, "let a; { let a; { let a; a; } a; } a;", "25>2, 30>1, 35>0")
	uses(t, "let a; function f(a) { a; { let a; a; } } a;", "23>2, 35>3, 42>0")
	uses(t, "let a; function f() { a; { a; } function g() { a; let a; } }", "22>0, 27>0, 47>3")
	uses(t, "f(); function f() { f(); }", "0>0, 20>0")
	uses(t, "let e; try { e; } catch (e) { e; { e; } } finally { e; } e;", "13>0, 30>1, 35>1, 52>0, 57>0")
	uses(t, "let x; for (let x of x) x; x;", "21>0, 24>1, 27>0")
	uses(t, "let x; for (const x of [x]) { x; let x; x; } x;", "24>0, 30>2, 40>2, 45>0")
	uses(t, "let x; for (let x of function () { return x; }) ;", "42>0")
	uses(t, "let a; if (a) { let a; a; } else { a; } a;", "11>0, 23>1, 35>0, 40>0")
	uses(t, "let a; while (a) { let a; a; }", "14>0, 26>1")
	uses(t, "let a; for (a; a; a) { let a; a; }", "12>0, 15>0, 18>0, 30>1")
	uses(t, "function f(a) { let b = a; return function (b) { return a + b; }; }", "24>1, 56>1, 60>3")
}

// P7.3: a block may declare anew what one around it has; a for of's and a function's own name are in blocks of their own.
func TestBlocksApart(t *testing.T) {
	for _, s := range []string{
		"let a; { let a; { let a; } } { const a = 1; }",
		"let a; function f() { let a; }",
		"let f; (function f(f) { { let f; } });",
		"(function f() { let f; });",
		"(function f(f) { });",
		"for (let x of 1) { let x; }",
		"let x; for (let x of 1) for (const x of 2) { function x() { } }",
		"try { let e; } catch (e) { { let e; } } finally { let e; }",
		"let e; try { } catch (e) { }",
		"try { } catch (e) { } try { } catch (e) { }",
		"function f(a) { { let a; } for (let a of 1) ; try { } catch (a) { } }",
		"{ function f() { } } { function f() { } } function f() { }",
		"if (1) { let a; } else { let a; }",
		"a: { let a; }",
		"let a; a: ;",
	} {
		fine(t, s)
	}
}

// P7.3: each kind of node whose kids are gone through, in which order.
func TestOrderOfUses(t *testing.T) {
	const names = "let a; let b; let c; let d; " // 28 bytes
	for s, want := range map[string]string{
		"a;":         "28>0",
		"(a);":       "29>0",
		"[a, b, a];": "29>0, 32>1, 35>0",
		"({a: b, [c]: d, get [a]() { b; }, 'c': d, 1: a});": "33>1, 37>2, 41>3, 49>0, 56>1, 67>3, 73>0",
		"a.b;":                              "28>0",
		"a[b];":                             "28>0, 30>1",
		"a.b.c[d].a;":                       "28>0, 34>3",
		"a(b, c);":                          "28>0, 30>1, 33>2",
		"new a(b)(c);":                      "32>0, 34>1, 37>2",
		"new a;":                            "32>0",
		"-a; !b; typeof c; void d; ~a; +b;": "29>0, 33>1, 43>2, 51>3, 55>0, 59>1",
		"delete a.b; delete c[d];":          "35>0, 47>2, 49>3",
		"a++; --b;":                         "28>0, 35>1",
		"a[b]++; --c.a;":                    "28>0, 30>1, 38>2",
		"a + b * c - d;":                    "28>0, 32>1, 36>2, 40>3",
		"a && b || c;":                      "28>0, 33>1, 38>2",
		"a in b; c instanceof d;":           "28>0, 33>1, 36>2, 49>3",
		"a ? b : c;":                        "28>0, 32>1, 36>2",
		"a = b = c;":                        "28>0, 32>1, 36>2",
		"a += b;":                           "28>0, 33>1",
		"a[b] = c;":                         "28>0, 30>1, 35>2",
		"a.b = c;":                          "28>0, 34>2",
		"a[b] >>>= c;":                      "28>0, 30>1, 38>2",
		"(function* () { yield a; yield; yield b + (yield c); });": "50>0, 66>1, 77>2",
		"let e = a; const f = b;":                                  "36>0, 49>1",
		"(function () { return a; return; });":                     "50>0",
		"if (a) b; else c;":                                        "32>0, 35>1, 43>2",
		"if (a) b;":                                                "32>0, 35>1",
		"while (a) b;":                                             "35>0, 38>1",
		"for (a; b; c) d;":                                         "33>0, 36>1, 39>2, 42>3",
		"for (; a;) ; for (;; b) c;":                               "35>0, 49>1, 52>2",
		"for (let x of a) b;":                                      "42>0, 45>1",
		"x: a;":                                                    "31>0",
		"throw a;":                                                 "34>0",
		"try { a; } catch (e) { b; } finally { c; }":               "34>0, 51>1, 66>2",
		"try { a; } finally { b; }":                                "34>0, 49>1",
		"{ a; { b; } c; }":                                         "30>0, 35>1, 40>2",
		"(function (a) { a; b; });":                                "44>4, 47>1",
		"1; 'a'; true; false; null; undefined; this; ;":            "",
	} {
		uses(t, names+s, want)
	}
}

// P7.3: a key behind a point, a property's name, a label are no names that are used.
func TestNoUses(t *testing.T) {
	uses(t, "let a; a.zz; a.print; ({zz: 1, get zy() { }}); zx: while (1) { break zx; continue zx; }", "7>0, 13>0")
}

// P7.3: a builtin, unless a block has its name.
func TestBuiltinsUsed(t *testing.T) {
	for _, name := range builtins {
		resolves(t, name+";", "0^-1:0/0", "", "0>-1")
		resolves(t, "(function () { return "+name+"; });", "0^-1:0/0, 1^0:0/0", "", "22>-1")
	}
	resolves(t, "print(Math.x, NaN);", "0^-1:0/0", "", "0>-1, 6>-1, 14>-1")
	resolves(t, "print; { let print; print = 1; } print;", "0^-1:0/1", "print@9 let 0.0", "0>-1, 20>0, 33>-1")
	resolves(t, "let print = 1; print = 2; function f(Math) { Math++; print--; }", "0^-1:0/2, 26^0:1/1",
		"print@0 let 0.0!, f@26 function 0.1, Math@37 param 1.0", "15>0, 45>2, 53>0")
	resolves(t, "try { } catch (NaN) { NaN = 1; } for (let Object of Array) Object = 1; (function Error() { Error; });",
		"0^-1:0/2, 72^0:0/1", "NaN@0 catch 0.0, Object@33 let 0.1, Error@72 self 1.0", "22>0, 52>-1, 59>1, 91>2")
}

// P7.3: Captured just if it is used, in whatever way, in another function than its own.
func TestCaptured(t *testing.T) {
	for s, want := range map[string]string{
		"let a; a; { a; }":                                           "a@0 let 0.0",
		"let a; (function () { a; });":                               "a@0 let 0.0!",
		"let a; (function () { a = 1; });":                           "a@0 let 0.0!",
		"let a; (function () { a++; });":                             "a@0 let 0.0!",
		"let a; (function () { (function () { a; }); });":            "a@0 let 0.0!",
		"let a; (function () { let a; a; });":                        "a@0 let 0.0, a@22 let 1.0",
		"let a; (function (a) { return function () { a; }; });":      "a@0 let 0.0, a@18 param 1.0!",
		"function f() { f(); }":                                      "f@0 function 0.0!",
		"function f() { } f();":                                      "f@0 function 0.0",
		"try { } catch (e) { (function () { e; }); e; }":             "e@0 catch 0.0!",
		"for (const x of 1) (function () { x; });":                   "x@0 const 0.0!",
		"(function f() { f; });":                                     "f@1 self 1.0",
		"(function f() { ({get x() { return f; }}); });":             "f@1 self 1.0!",
		"function f(a, b) { (function () { b; }); a; }":              "f@0 function 0.0, a@11 param 1.0, b@14 param 1.1!",
		"let a; let b; (function () { b; a; b; }); a;":               "a@0 let 0.0!, b@7 let 0.1!",
		"const a = 1; { const a = 2; (function* () { yield a; }); }": "a@0 const 0.0, a@15 const 0.1!",
	} {
		if got := varsTold(fine(t, s)); got != want {
			t.Errorf("%s\n got %s\nwant %s", s, got, want)
		}
	}
}

// P7.3: to what something can be given.
func TestGiven(t *testing.T) {
	for _, s := range []string{
		"let a; a = 1; a += 1; a++; --a;",
		"function f(a) { a = 1; f = 2; a--; ++f; }",
		"try { } catch (e) { e = 1; e++; }",
		"for (let x of 1) { x = 1; x++; }",
		"const a = 1; a.b = 1; a[0] += 1; a.b++; --a[0];",
		"print.x = 1; print.x++; Math[0] = 2;",
		"(function f() { f.x = 1; f.y++; });",
		"const a = 1; { let a; a = 1; } (function (a) { a = 1; });",
		"(function f(f) { f = 1; }); (function g() { let g; g = 1; });",
		"a = 1; let a;",
	} {
		fine(t, s)
	}
}

// P7.3: jumps to where they can.
func TestJumps(t *testing.T) {
	for _, s := range []string{
		"while (1) break;", "while (1) continue;", "for (;;) break;", "for (;;) continue;", "for (let x of 1) break;", "for (const x of 1) continue;",
		"while (1) { if (1) { { break; } } else try { continue; } catch (e) { break; } finally { continue; } }",
		"a: break a;", "a: { break a; }", "a: b: { break a; break b; }", "a: if (1) break a;", "a: try { break a; } finally { }", "a: { b: { break a; } break a; }",
		"a: while (1) break a;", "a: while (1) continue a;", "a: for (;;) continue a;", "a: for (let x of 1) continue a;",
		"a: b: while (1) { continue a; continue b; break a; break b; }",
		"a: b: c: for (;;) { { continue a; } }",
		"a: while (1) { b: while (1) { continue a; continue b; break a; } continue a; }",
		"a: while (1) { b: { continue a; break b; continue; } }",
		"a: ; a: ;", "a: { } a: while (1) continue a;", "a: { b: ; b: ; }",
		"a: (function () { a: ; });", "a: while (1) { (function () { a: while (1) continue a; }); continue a; }",
		"while (1) { (function () { while (1) break; }); break; }",
		"print: while (1) continue print;", "let a; a: a;",
		"while (1) { while (1) break; break; }", "a: { while (1) { break a; } }",
	} {
		fine(t, s)
	}
}

// P7.3: in a function, of whatever kind, something can be returned, from wherever.
func TestReturns(t *testing.T) {
	for _, s := range []string{
		"function f() { return; }", "function* f() { return 1; }", "(function () { return; });", "(function* g() { return; });",
		"({get a() { return 1; }, set a(b) { return; }});",
		"function f() { while (1) { try { return; } catch (e) { return e; } finally { a: { return; } } } }",
		"function f() { (function () { return; }); return; }",
	} {
		fine(t, s)
	}
}
