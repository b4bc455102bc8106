package parse_test

import (
	"strings"
	"testing"

	"brazier/api"
)

// P6.1: lex's errors and places, whatever else is amiss.
func TestLexErrors(t *testing.T) {
	wrong(t, "a # b;", 2, api.ErrLexSign)
	wrong(t, "1 = 2; #", 7, api.ErrLexSign)
	wrong(t, ") 1a", 2, api.ErrLexNumber)
	wrong(t, "delete a 'b", 9, api.ErrLexString)
	wrong(t, "if (a) let b; /*", 14, api.ErrLexRemark)
	wrong(t, "a \x80", 2, api.ErrLexByte)
	wrong(t, "a;"+strings.Repeat("b", 33), 2, api.ErrLexName)
	wrong(t, "a;'"+strings.Repeat("b", 4097)+"'", 2, api.ErrLexText)
	wrong(t, strings.Repeat("(", 65537), 0, api.ErrLexLong)
	wrong(t, strings.Repeat("{", 100)+"#", 100, api.ErrLexSign)
	fine(t, strings.Repeat(";", 65536))
}

// P6.1: a token that can't stand there; the | is ahead of it.
func TestForm(t *testing.T) {
	for _, s := range []string{
		"a|", "a; |}", "|)", "{ a; |", "{ a; |)", "a |b;", "a |1;", "|else ;", "|catch (e) {}", "|in a;", "|= 1;", "|? 1 : 2;", "|. a;",
		"let |;", "let |1;", "let |'a';", "let |if;", "let |yield;", "let a |", "let a |b;", "let a |, b;", "let a = |;", "let a = 1 |}", "let a |+= 1;", "let |[a] = b;",
		"const |;", "const a|;", "const a |b;", "const a = |;", "const a = 1|",
		"function |(a) {}", "function * |() {}", "function |1() {}", "function * |* f() {}", "function f |* () {}", "function f|;", "function f(|", "function f(|1) {}", "function f(a |b) {}", "function f(a,|) {}", "function f(a|; b) {}", "function f(|,) {}", "function f(a |= 1) {}", "function f(|this) {}", "function f() |;", "function f() |a;", "function f() {|",
		"return |", "return |}", "return a |b;", "return |return;", "return a|, b;",
		"if |a;", "if (|) ;", "if (a |;", "if (a|, b) ;", "if (a) |", "if (a) |else ;", "if (a) ; else |", "if (a) ; else |}", "if (a) ; else ; |else ;", "if (a) |) ;", "if (a) b |else c;",
		"while |{}", "while (|) ;", "while (a) |",
		"for |a;", "for (|) ;", "for (a|) ;", "for (a |of b) ;", "for (a;|) ;", "for (;;|;) ;", "for (a; b|) ;", "for (;;) |", "for (; ; a |;) ;", "for (let a |= 0;;) ;", "for (let of |) ;", "for (let of of |) ;", "for (let a |in b) ;", "for (let a |b) ;", "for (let a |'of' b) ;", "for (let a of |) ;", "for (const a of b|, c) ;", "for (const a of b|;;) ;", "for (let |1 of b) ;", "for (let a of b) |", "for (let |function of b) ;", "for (var |a of b) ;",
		"break |", "break a |b;", "break |1;", "break a|.b;", "continue |}", "continue a|, b;", "continue |if;",
		"a: |", "a: |}", "a : |: b;", "1 |: a;", "this|: a;", "a.b|: c;", "if|: a;",
		"throw |;", "throw |", "throw a|",
		"try |a;", "try {} |", "try {} |a;", "try {} |{}", "try {} catch |{}", "try {} catch (|) {}", "try {} catch (|1) {}", "try {} catch (e|, f) {}", "try {} catch (e) |;", "try {} finally |;", "try {} finally {} |catch (e) {}", "try {} catch (e) {} |catch (e) {}", "try {} finally {} |finally {}", "try |finally {}",
		"a = |;", "a = |= b;", "a =|> b;", "a ? |: b;", "a ? b |;", "a ? b : |;", "a ? b : c |: d;", "a ? b|, c : d;",
		"a + |;", "a + |* b;", "a |! b;", "a |~ b;", "a in |in b;", "a instanceof |;", "a |typeof b;", "a && |&& b;", "a < |= b;",
		"- |;", "typeof |;", "! |)", "delete |;", "void |return;", "++ |;", "a ++ |++;", "a ++ |b;", "a++|.b;", "a++|(b);", "a -- |--;", "++ |",
		"a.|;", "a.|1;", "a.|'b';", "a.|[b];", "a.|(b);", "a.|.b;", "a[|];", "a[b|;", "a[b|, c];", "a[|", "a(|;", "a(b|;", "a(b |c);", "a(|, b);", "a(b,|);", "a(b,|, c);", "a(b|]", "a|]",
		"new |;", "new |-a;", "new |.a;", "new (|)", "new new |;", "new |typeof a;", "new |delete a;", "new a |b;", "new a(|;", "new a.|;", "new a[|];", "new |++a;", "new |in;", "new |)",
		"(|);", "(a|;", "(a|, b);", "(|", "(a|]", "[a|;", "[|, a];", "[a,|];", "[a,|, b];", "[a |b];", "[|", "[a|)",
		"x = {|,};", "x = {a|};", "x = {a|, b};", "x = {a|() {}};", "x = {a: |};", "x = {a: b,|};", "x = {a: b |c: d};", "x = {a |= b};", "x = {|(a): b};", "x = {|-1: b};", "x = {[a]|};", "x = {[|]: 1};", "x = {[a|, b]: 1};", "x = {1|};", "x = {'a'|};", "x = {|*a() {}};", "x = {|", "x = {a: 1|", "x = {a: 1|;",
		"x = {get|};", "x = {set|, a: 1};", "x = {get|() {}};", "x = {get a|: 1};", "x = {get get|: 1};", "x = {get a|};", "x = {get a(|1) {}};", "x = {get a() |};", "x = {set [a(b) |{}};", "x = {set |*a() {}};", "x = {get |+a() {}};", "x = {of |a() {}};", "x = {'get' |a() {}};", "x = {get a |b() {}};", "x = {if |a() {}};", "x = {get a |{}};", "x = {get set |a() {}};",
		"x = function |;", "x = function f |{}", "x = function |1() {};", "x = function () |;", "x = function * |* () {};", "x = function f |* () {};", "x = function |if() {};", "x = function () {} |function () {}",
		"|catch;", "|finally {}", "|else", "case|", "x =|", "|instanceof", "|]", "|,", "|:",
	} {
		wrongHere(t, s, api.ErrParseForm)
	}
}

// P6.1: an item that begins with function is declared, one with { is a block, whatever comes behind.
func TestFirstOfItem(t *testing.T) {
	wrongHere(t, "function |() {};", api.ErrParseForm)
	wrongHere(t, "function f() {} |* 1;", api.ErrParseForm)
	wrongHere(t, "{} |* 1;", api.ErrParseForm)
	wrongHere(t, "{a: 1|, b: 2};", api.ErrParseForm)
	wrongHere(t, "{ 'a'|: 1 }", api.ErrParseForm)
	wrongHere(t, "{}|.a;", api.ErrParseForm)
}

// P6.1: a yield that is in no function with a *, or in one within it.
func TestYieldOutside(t *testing.T) {
	for _, s := range []string{
		"|yield;", "|yield a;", "a = |yield;", "a + |yield;",
		"function f() { |yield; }", "function f() { return |yield 1; }",
		"function* f() { function g() { |yield; } }", "function* f() { x = function () { |yield; }; }",
		"function* f() { x = {get a() { |yield; }}; }", "function* f() { x = {set a(b) { |yield; }}; }",
		"function* f() { x = {a: function () { |yield; }}; }",
		"function* f() { function* g() { yield; } function h() { |yield; } }",
		"function* f() {} |yield;", "x = function* () { yield; } + |yield;", "function* f() { yield; } { |yield; }",
		"function* f(|yield) {}", "function* |yield() {}", "function* f() { let |yield; }", "function* f() { yield |instanceof a; }",
		"function* f() { a + |yield; }", "function* f() { - |yield; }", "function* f() { new |yield; }", "function* f() { (yield)|yield; }",
		"function* f() { yield |* a; }", "function* f() { yield +|; }", "function* f() { yield |in a; }", "function* f() { yield |= a; }", "function* f() { yield |.a; }", "function* f() { yield |", "function* f() { yield a|", "function* f() { yield |else; }", "function* f() { yield |? a : b; }",
		"function* f() { yield; |: a; }", "function* f() { yield |: a; }", "function* f() { yield |) }", "function* f() { yield |] }", "function* f() { yield|, a; }", "function* f() { yield |}",
	} {
		wrongHere(t, s, api.ErrParseForm)
	}
}

// P6.1: let, const or function where a Stmt must stand.
func TestHere(t *testing.T) {
	for _, word := range []string{"let", "const", "function"} {
		for _, s := range []string{
			"if (a) |", "if (a) ; else |", "while (a) |", "for (;;) |", "for (let a of b) |", "a: |", "a: b: |", "{ if (a) |", "function f() { while (1) |", "if (a) while (b) c: |", "if (a) ; else if (b) |",
		} {
			for _, behind := range []string{"", " a", " a = 1;", " a() {}", " )", " (", " () {};"} {
				wrongHere(t, s+word+behind, api.ErrParseHere)
			}
		}
	}
	fine(t, "if (a) { let b; } else { function f() {} } a: { const c = 1; }")
	wrongHere(t, "if (|let) ;", api.ErrParseForm)
	wrongHere(t, "a = |let;", api.ErrParseForm)
	wrongHere(t, "return |const a = 1;", api.ErrParseForm)
	wrongHere(t, "try |let a;", api.ErrParseForm)
	wrongHere(t, "function f() |function g() {}", api.ErrParseForm)
	wrongHere(t, "for (;|let a;) ;", api.ErrParseForm)
}

// P6.1: what stands ahead of an assignment's sign, or at a ++ or --, and is neither a name nor a member.
func TestLeft(t *testing.T) {
	no := []string{
		"1", "'a'", "true", "null", "undefined", "this", "[]", "[a]", "a()", "a.b()", "new a", "new a()", "new a.b", "(1)", "((a + b))", "(a = b)", "(a ? b : c)", "(function () {})", "({})", "(-a)", "(a++)", "(++a)",
	}
	for _, left := range no {
		at := strings.Index(left, strings.TrimLeft(left, "("))
		for _, sign := range strings.Fields(assignSigns) {
			wrong(t, left+" "+sign+" 1;", at, api.ErrParseLeft)
			wrong(t, "x = "+left+" "+sign, 4+at, api.ErrParseLeft)
		}
		for _, sign := range []string{"++", "--"} {
			wrong(t, left+" "+sign+";", at, api.ErrParseLeft)
			wrong(t, left+sign+"|", at, api.ErrParseLeft)
			wrong(t, sign+" "+left+";", 3+at, api.ErrParseLeft)
			wrong(t, "- "+sign+left+")", 4+at, api.ErrParseLeft)
		}
	}
	for _, left := range []string{"-a", "a + b", "a || b.c", "typeof a", "!a", "++a", "a++", "a * b.c", "a in b", "delete a.b"} {
		wrong(t, left+" = 1;", 0, api.ErrParseLeft)
		wrong(t, "a = "+left+" *= 1;", 4, api.ErrParseLeft)
	}
	for _, kid := range []string{"-a", "++a", "a++", "typeof a", "new a"} {
		wrong(t, "++ "+kid+";", 3, api.ErrParseLeft)
	}
	wrong(t, "a = 1 = 2;", 4, api.ErrParseLeft)
	wrong(t, "a ? b : 1 = 2;", 8, api.ErrParseLeft)
	wrong(t, "a ? 1 = 2 : b;", 4, api.ErrParseLeft)
	wrong(t, "x(a, 1 = 2);", 5, api.ErrParseLeft)
	wrong(t, "for (1 = 2;;) ;", 5, api.ErrParseLeft)
	wrong(t, "function* f() { (yield) = 1; }", 17, api.ErrParseLeft)
	wrong(t, "function* f() { ++(yield a); }", 19, api.ErrParseLeft)
}

// P6.1: delete of a name.
func TestDelete(t *testing.T) {
	wrong(t, "delete a;", 0, api.ErrParseDelete)
	wrong(t, "a = - delete a;", 6, api.ErrParseDelete)
	wrong(t, "delete (a);", 0, api.ErrParseDelete)
	wrong(t, "delete ((a)) + 1;", 0, api.ErrParseDelete)
	wrong(t, "delete get", 0, api.ErrParseDelete)
	wrong(t, "delete delete a;", 7, api.ErrParseDelete)
	wrong(t, "[delete a", 1, api.ErrParseDelete)
	for _, kid := range []string{"a.b", "a[b]", "a()", "this", "1", "-a", "a++", "(a + b)", "(a = b)", "undefined", "new a", "[a]", "void a"} {
		fine(t, "delete "+kid+";")
	}
}

// P6.1: which of two faults is told: the one that is met first.
func TestFirstFault(t *testing.T) {
	wrong(t, "1 = )", 0, api.ErrParseLeft)
	wrong(t, "(1 )= )", 1, api.ErrParseLeft)
	wrongHere(t, "(1 |2) = 3;", api.ErrParseForm)
	wrongHere(t, "1 |) = 2;", api.ErrParseForm)
	wrong(t, "1 = delete a;", 0, api.ErrParseLeft)
	wrong(t, "delete a = 1;", 0, api.ErrParseDelete)
	wrong(t, "delete a )", 0, api.ErrParseDelete)
	wrong(t, "delete (a", 9, api.ErrParseForm)
	wrongHere(t, "delete |)", api.ErrParseForm)
	wrong(t, "delete 1++;", 7, api.ErrParseLeft)
	wrong(t, "delete ++1;", 9, api.ErrParseLeft)
	wrong(t, "++ delete a;", 3, api.ErrParseDelete)
	wrong(t, "++ 1 )", 3, api.ErrParseLeft)
	wrongHere(t, "++ (1 |;", api.ErrParseForm)
	wrong(t, "++ 1 = 2;", 3, api.ErrParseLeft)
	wrong(t, "++ 1 ++;", 3, api.ErrParseLeft)
	wrong(t, "++ a ++;", 3, api.ErrParseLeft)
	wrong(t, "1++ ++", 0, api.ErrParseLeft)
	wrong(t, "++f(1++);", 4, api.ErrParseLeft)
	wrong(t, "f(1 = 2)++;", 2, api.ErrParseLeft)
	wrong(t, "f(delete a) = 1;", 2, api.ErrParseDelete)
	wrongHere(t, "if (1 |2) let a;", api.ErrParseForm)
	wrong(t, "if (1 = 2) let a;", 4, api.ErrParseLeft)
	wrongHere(t, "if (a) |let let;", api.ErrParseHere)
	wrongHere(t, "if (a) b |let c;", api.ErrParseForm)
	wrongHere(t, "if (a) |let b; 1 = 2;", api.ErrParseHere)
	wrong(t, "1 = 2; if (a) let b;", 0, api.ErrParseLeft)
	wrong(t, "a = b + 1 = ", 4, api.ErrParseLeft)
	wrong(t, "1 + delete a = 2;", 4, api.ErrParseDelete)
	wrong(t, "-a = delete b;", 0, api.ErrParseLeft)
	wrongHere(t, "a; |} 1 = 2;", api.ErrParseForm)
}
