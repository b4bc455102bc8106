package engine_test

import (
	"fmt"
	"strings"
	"testing"

	"brazier/api"
	"brazier/emit"
	"brazier/engine"
	"brazier/machine"
	"brazier/parse"
	"brazier/scope"
)

// refused is a text that is not taken: the place, and why.
type refused struct {
	text string
	at   int
	code api.Errno
}

func refuses(t *testing.T, l []refused) {
	t.Helper()
	for _, k := range l {
		if e, at, code := engine.Load(k.text); e != nil || at != k.at || code != k.code {
			t.Errorf("%.100q: %v, %d, %d; want none, %d, %d", k.text, e, at, code, k.at, k.code)
		}
	}
}

// P19.1: the chapter's examples.
func TestLoadExamples(t *testing.T) {
	refuses(t, []refused{{"print(1", 7, api.ErrParseForm}, {"x;", 0, api.ErrScopeName}})
	load(t, "print(1);")
}

// P19.1: what the tokens, or the grammar, refuse: parse's place.
func TestLoadParse(t *testing.T) {
	blanks := strings.Repeat(" ", api.MaxSource-9)
	refuses(t, []refused{
		{blanks + "print(1); ", 0, api.ErrLexLong},
		{"print(1);\x00", 9, api.ErrLexByte}, {"print(\"\xc3\xa4\");", 7, api.ErrLexByte}, {"/*\r*/", 2, api.ErrLexByte},
		{"print(1); /* ", 10, api.ErrLexRemark}, {"/*/", 0, api.ErrLexRemark},
		{"let " + strings.Repeat("a", 33) + ";", 4, api.ErrLexName},
		{"print(1a);", 6, api.ErrLexNumber}, {"\n01;", 1, api.ErrLexNumber},
		{"print('a\n');", 6, api.ErrLexString}, {`print(1, '\q');`, 9, api.ErrLexString},
		{"print('" + strings.Repeat("a", 4097) + "');", 6, api.ErrLexText},
		{"print(1)#;", 8, api.ErrLexSign}, {"a.b @ c", 4, api.ErrLexSign},
		{"print(1", 7, api.ErrParseForm}, {"print(1) print(2);", 9, api.ErrParseForm}, {"/* a */ }", 8, api.ErrParseForm}, {"let 1;", 4, api.ErrParseForm},
		{"yield;", 0, api.ErrParseForm}, {"function* f() { function g() { yield 1; } }", 31, api.ErrParseForm}, {"f(1,);", 4, api.ErrParseForm}, {"try { }", 7, api.ErrParseForm}, {"const a;", 7, api.ErrParseForm},
		{strings.Repeat("(", 60) + "1;", 29, api.ErrParseDeep}, {"print(" + strings.Repeat("- ", 56) + "1);", 6 + 2*56, api.ErrParseDeep}, {strings.Repeat("{", 61), 60, api.ErrParseDeep},
		{"let a;a" + strings.Repeat(".a", 300) + ";", 0, api.ErrParseDeep},
		{"if (1) let b;", 7, api.ErrParseHere}, {"while (0) function f() {}", 10, api.ErrParseHere}, {"a: const b = 1;", 3, api.ErrParseHere},
		{"1 = 2;", 0, api.ErrParseLeft}, {"let a; a + 1 = 2;", 7, api.ErrParseLeft}, {"let a; ++f();", 9, api.ErrParseLeft}, {"f()++;", 0, api.ErrParseLeft},
		{"let a; delete a;", 7, api.ErrParseDelete},
	})
	load(t, blanks+"print(1);")
	load(t, "let "+strings.Repeat("a", 32)+";")
	load(t, "print('"+strings.Repeat("a", 4096)+"');")
	load(t, "print("+strings.Repeat("- ", 55)+"1);")
	load(t, strings.Repeat("{", 60)+strings.Repeat("}", 60))
}

// P19.1: what the early errors refuse: scope's place.
func TestLoadScope(t *testing.T) {
	vars := func(n int) string {
		s := ""
		for i := range n {
			s += fmt.Sprint("let a", i, ";")
		}
		return s
	}
	functions := func(n int) string { return strings.Repeat("(function () {});", n) }
	refuses(t, []refused{
		{"x;", 0, api.ErrScopeName}, {"print(1, y);", 9, api.ErrScopeName}, {"{ let a; } a;", 11, api.ErrScopeName}, {"function f() { return g; }", 22, api.ErrScopeName}, {"undefine = 1;", 0, api.ErrScopeName}, {"for (const x of x) {}", 16, api.ErrScopeName}, {"try {} catch (e) {} e;", 20, api.ErrScopeName},
		{"let a; let a;", 7, api.ErrScopeTwice}, {"function f(a, a) {}", 14, api.ErrScopeTwice}, {"function f(a) { let a; }", 16, api.ErrScopeTwice}, {"try {} catch (e) { const e = 1; }", 19, api.ErrScopeTwice}, {"let f; function f() {}", 7, api.ErrScopeTwice},
		{vars(201), len(vars(200)), api.ErrScopeMany}, {functions(200), len(functions(199)) + 1, api.ErrScopeMany},
		{"const c = 1; c = 2;", 13, api.ErrScopeConst}, {"print = 1;", 0, api.ErrScopeConst}, {"Infinity++;", 0, api.ErrScopeConst}, {"(function f() { f = 1; });", 16, api.ErrScopeConst}, {"for (const x of []) { --x; }", 24, api.ErrScopeConst},
		{"break;", 0, api.ErrScopeJump}, {"while (1) { function f() { continue; } }", 27, api.ErrScopeJump}, {"a: { continue a; }", 5, api.ErrScopeJump}, {"a: a: ;", 3, api.ErrScopeJump}, {"while (1) break b;", 10, api.ErrScopeJump},
		{"print(1); return;", 10, api.ErrScopeReturn}, {"{ return x; }", 2, api.ErrScopeReturn},
	})
	load(t, vars(200))
	load(t, functions(199))
	load(t, "let a; { let a; } function f(b) { let a; { let b; } }")
}

// P19.1: what is too much behind them is told at 0, wherever it stands.
func TestLoadMuch(t *testing.T) {
	numbers := func(n int) string { return strings.TrimSuffix(strings.Repeat("0,", n), ",") }
	refuses(t, []refused{
		{"print(" + numbers(500) + ");", 0, api.ErrEmitMany},
		{"print(1);\n{ let a; function f() { return new Error(" + numbers(500) + "); } }", 0, api.ErrEmitMany},
		{"let a = 0;" + strings.Repeat("a++;", 16000), 0, api.ErrEmitMany},
		{"let a = 0; function f() {" + strings.Repeat("a++;", 16000) + "}", 0, api.ErrEmitMany},
	})
	load(t, "print("+numbers(300)+");")
	load(t, "["+numbers(30000)+"];")
}

// P19.1: parse's error comes ahead of scope's, scope's ahead of emit's.
func TestLoadFirst(t *testing.T) {
	many := "print(" + strings.Repeat("0,", 500) + "0);"
	refuses(t, []refused{
		{"x; print(1", 10, api.ErrParseForm}, {"let a; let a; 1 = 2; #", 21, api.ErrLexSign}, {"x; 'a", 3, api.ErrLexString},
		{many + "x;", len(many), api.ErrScopeName}, {many + "let a; let a;", len(many) + 7, api.ErrScopeTwice}, {many + "x; if", len(many) + 5, api.ErrParseForm},
	})
}

// byHand is what Load is made of.
func byHand(s string) (int, api.Errno) {
	n, at, code := parse.Parse(s)
	if code != api.OK {
		return at, code
	}
	names, at, code := scope.Resolve(n)
	if code != api.OK {
		return at, code
	}
	p, code := emit.Program(n, names)
	if code != api.OK {
		return 0, code
	}
	_, code = machine.New(p)
	return 0, code
}

// P19.1: of whatever text, it is what the layers below say, and an engine is there just if it is taken.
func TestLoadChance(t *testing.T) {
	c := chance(191)
	met := map[api.Errno]int{}
	for n := range 12000 {
		s := spoilt(&c)
		if n%3 == 0 {
			s = soup(&c)
		}
		at, want := byHand(s)
		e, got, code := engine.Load(s)
		if got != at || code != want || (e != nil) != (code == api.OK) {
			t.Fatalf("%q: %v, %d, %d; want %d, %d", s, e, got, code, at, want)
		}
		met[code]++
	}
	for _, code := range []api.Errno{api.OK, api.ErrLexByte, api.ErrLexString, api.ErrParseForm, api.ErrParseHere, api.ErrParseLeft, api.ErrScopeTwice, api.ErrScopeName, api.ErrScopeConst, api.ErrScopeJump, api.ErrScopeReturn} {
		if met[code] == 0 {
			t.Error("nothing met", code, "of", met)
		}
	}
}

// whole is a program in which most of the grammar stands.
const whole = `let a = 1; const b = [a, 'x', {c: 2, get d() { return this; }}]; function f(x, y) { return x ? y : f(y, x); } function* g() { const r = yield a; yield; return r; }
l: for (const k of b) { if (k === 1) continue l; else break l; } while (a < 3) { a++; } for (a = 0; a < 2; a += 1) ; try { throw new Error("e"); } catch (e) { print(e.message, typeof e); } finally { delete b[0]; } { let a = -1; print(a && !b || void 0, f(1, 2)); }`

// spoilt is the program, with a few of its bytes changed or left out.
func spoilt(c *chance) string {
	s := whole
	for range 1 + c.below(3) {
		from := c.below(len(s))
		to := min(len(s), from+c.below(9))
		s = s[:from] + c.of("", "", " ", "x", "a", ";", "1", "'", "\x80", "}", "let a;", "break;", "b = 1;", "return;", "=") + s[to:]
	}
	return s
}

// soup is made of pieces that may stand behind one another, or not.
func soup(c *chance) string {
	s := ""
	for range 1 + c.below(8) {
		s += c.of("let a;", "let b = a;", "const c = 1;", "a = 1;", "c++;", "b;", "a: ", "while (a) ", "if (1) ", "break;", "continue a;", "return;", "{", "}", "function f(a) {", "print(a);", "1 = 2;", "try {", "} finally {", "} catch (a) {", "delete b;", "yield a;", "function* g() {", "'", "/*", " ", "\n", "f(g);")
	}
	return s
}

// P19.1: an engine stands ahead of the program.
func TestLoadAhead(t *testing.T) {
	for _, s := range []string{"", " ", "print(1);", "throw 1;", whole} {
		e := load(t, s)
		ahead(t, e)
		p := both(t, s)
		p.same()
		if fn := p.e.Machine().Func(); fn != p.m.Func() || p.e.Machine().Pc() != 0 {
			t.Error(s, "stands at", fn, p.e.Machine().Pc())
		}
		for fn, f := range e.Machine().Program().Funcs {
			for pc := range f.Code {
				q := e.Quick()
				if q.Site(fn, pc).State != api.SiteNew || q.Arith(fn, pc) != api.ArithNew || q.Call(fn, pc) != api.CallNew || q.Looked(fn, pc) != 0 || q.Turned(fn, pc) != 0 {
					t.Error(s, "knows something at", fn, pc)
				}
			}
		}
	}
}

func ahead(t *testing.T, e *engine.Engine) {
	t.Helper()
	m := e.Machine()
	if m.Count() != 0 || m.End() != api.EndRunning || len(m.Log()) != 0 || m.Uncaught() != "" || m.Pc() != 0 {
		t.Error("stands at", m.Count(), m.Pc(), m.End(), m.Log(), m.Uncaught())
	}
}

// P19.1: a text that is loaded twice is two programs, of which neither knows of the other.
func TestLoadTwice(t *testing.T) {
	const s = `let n = 0; Object.prototype.x = (Object.prototype.x || 0) + 1; while (n < 50) { n += {}.x; print(n); }`
	one, two := load(t, s), load(t, s)
	if one == two || one.Machine() == two.Machine() || one.Quick() == two.Quick() {
		t.Error("one engine, and not two")
	}
	one.Run(plenty, true)
	ahead(t, two)
	if fn := two.Machine().Func(); two.Quick().Turned(fn, 0) != 0 {
		t.Error("one learns what the other meets")
	}
	two.Run(plenty, false)
	for _, e := range []*engine.Engine{one, two} {
		if l := e.Machine().Log(); len(l) != 50 || l[49] != "50" || e.Machine().End() != api.EndDone {
			t.Error(l, e.Machine().End())
		}
	}
	ahead(t, load(t, s))
}
