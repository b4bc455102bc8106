package parse_test

import (
	"strings"
	"testing"

	"brazier/api"
	"brazier/lex"
	"brazier/parse"
)

// P6.1: the chapter's examples.
func TestExamples(t *testing.T) {
	readsOne(t, "x = 1 + 2 * 3;", "Expr@0 (Assign@0 = (Name@0 'x', Binary@4 + (Number@4 #1, Binary@8 * (Number@8 #2, Number@12 #3))))")
	readsOne(t, "new a.b(1).c;", "Expr@0 (Member@0 . (New@0 (Member@4 . (Name@4 'a', String@6 'b'), Number@8 #1), String@11 'c'))")
	wrong(t, "if (a) let b;", 7, api.ErrParseHere)
	wrong(t, "1 = 2;", 0, api.ErrParseLeft)
	wrong(t, "delete a;", 0, api.ErrParseDelete)
	wrong(t, "yield;", 0, api.ErrParseForm)
	wrong(t, "a", 1, api.ErrParseForm)
	wrong(t, "f(1,)", 4, api.ErrParseForm)
	wrong(t, "{a: 1};", 5, api.ErrParseForm)
}

// P6.1: a program is all its items; its first token is TokenEnd if it has none.
func TestPrograms(t *testing.T) {
	reads(t, "", "Program@0")
	reads(t, " \t\n", "Program@3")
	reads(t, "/* a; */", "Program@8")
	reads(t, ";", "Program@0 (Empty@0)")
	reads(t, " // a\n ;; {}", "Program@7 (Empty@7, Empty@8, Block@10)")
	reads(t, "let a; a; const b = 1; function f() {}",
		"Program@0 (Let@0 'a' (-), Expr@7 (Name@7 'a'), Const@10 'b' (Number@20 #1), Declare@23 'f' (Block@36))")
}

// P6.1: what is declared.
func TestDeclares(t *testing.T) {
	readsOne(t, "let a;", "Let@0 'a' (-)")
	readsOne(t, "let a = b = 2;", "Let@0 'a' (Assign@8 = (Name@8 'b', Number@12 #2))")
	readsOne(t, "const a = (1);", "Const@0 'a' (Number@11 #1)")
	readsOne(t, "function f() {}", "Declare@0 'f' (Block@13)")
	readsOne(t, "function f(a) { let b; function g() {} }", "Declare@0 'f' (Name@11 'a', Block@14 (Let@16 'b' (-), Declare@23 'g' (Block@36)))")
	readsOne(t, "function * f ( a , bc ) { ; }", "Declare@0 'f' * (Name@15 'a', Name@19 'bc', Block@24 (Empty@26))")
	readsOne(t, "{ let a; const b = 1; { } }", "Block@0 (Let@2 'a' (-), Const@9 'b' (Number@19 #1), Block@22)")
	reads(t, "function f() {} (1);", "Program@0 (Declare@0 'f' (Block@13), Expr@16 (Number@17 #1))")
}

// P6.1: statements.
func TestStatements(t *testing.T) {
	for s, want := range map[string]string{
		"{}":                                     "Block@0",
		"{{};}":                                  "Block@0 (Block@1, Empty@3)",
		";":                                      "Empty@0",
		"return;":                                "Return@0 (-)",
		"return a;":                              "Return@0 (Name@7 'a')",
		"return(a);":                             "Return@0 (Name@7 'a')",
		"if (a) b;":                              "If@0 (Name@4 'a', Expr@7 (Name@7 'b'), -)",
		"if (a) b; else c;":                      "If@0 (Name@4 'a', Expr@7 (Name@7 'b'), Expr@15 (Name@15 'c'))",
		"if (a) if (b) ; else {}":                "If@0 (Name@4 'a', If@7 (Name@11 'b', Empty@14, Block@21), -)",
		"if (a) if (b) ; else ; else ;":          "If@0 (Name@4 'a', If@7 (Name@11 'b', Empty@14, Empty@21), Empty@28)",
		"if (a) ; else if (b) ; else ;":          "If@0 (Name@4 'a', Empty@7, If@14 (Name@18 'b', Empty@21, Empty@28))",
		"while (a = b) {}":                       "While@0 (Assign@7 = (Name@7 'a', Name@11 'b'), Block@14)",
		"for (;;) ;":                             "For@0 (-, -, -, Empty@9)",
		"for (a;;) ;":                            "For@0 (Name@5 'a', -, -, Empty@10)",
		"for (;a;) ;":                            "For@0 (-, Name@6 'a', -, Empty@10)",
		"for (;;a) ;":                            "For@0 (-, -, Name@7 'a', Empty@10)",
		"for (i = 0; i in n; i++) {}":            "For@0 (Assign@5 = (Name@5 'i', Number@9 #0), Binary@12 in (Name@12 'i', Name@17 'n'), Update@20 'post' ++ (Name@20 'i'), Block@25)",
		"for (let x of y) ;":                     "ForOf@0 'x' let (Name@14 'y', Empty@17)",
		"for (const of of of = of) of;":          "ForOf@0 'of' const (Assign@17 = (Name@17 'of', Name@22 'of'), Expr@26 (Name@26 'of'))",
		"break;":                                 "Break@0",
		"break a;":                               "Break@0 'a'",
		"continue;":                              "Continue@0",
		"continue get;":                          "Continue@0 'get'",
		"a: b: while (1) break a;":               "Label@0 'a' (Label@3 'b' (While@6 (Number@13 #1, Break@16 'a')))",
		"a: {}":                                  "Label@0 'a' (Block@3)",
		"throw a;":                               "Throw@0 (Name@6 'a')",
		"try {} catch (e) { a; }":                "Try@0 'e' (Block@4, Block@17 (Expr@19 (Name@19 'a')), -)",
		"try { a; } finally {}":                  "Try@0 (Block@4 (Expr@6 (Name@6 'a')), -, Block@19)",
		"try {} catch (e) {} finally { let a; }": "Try@0 'e' (Block@4, Block@17, Block@28 (Let@30 'a' (-)))",
		"a;":                                     "Expr@0 (Name@0 'a')",
		"((a));":                                 "Expr@0 (Name@2 'a')",
		"'{';":                                   "Expr@0 (String@0 '{')",
		"'return';":                              "Expr@0 (String@0 'return')",
		"'a' ? 'b' : 'c';":                       "Expr@0 (Cond@0 (String@0 'a', String@6 'b', String@12 'c'))",
		"({});":                                  "Expr@0 (Object@1)",
		"(function () {});":                      "Expr@0 (Function@1 (Block@13))",
		"{ if (a) { } else { } }":                "Block@0 (If@2 (Name@6 'a', Block@9, Block@18))",
		"while (0) for (;;) a: if (1) throw 2;":  "While@0 (Number@7 #0, For@10 (-, -, -, Label@19 'a' (If@22 (Number@26 #1, Throw@29 (Number@35 #2), -))))",
		"for (const a of b) for (let c of d) {}": "ForOf@0 'a' const (Name@16 'b', ForOf@19 'c' let (Name@33 'd', Block@36))",
		"if (a) ; else { ; }":                    "If@0 (Name@4 'a', Empty@7, Block@14 (Empty@16))",
		"try { try {} finally {} } finally { ; }": "Try@0 (Block@4 (Try@6 (Block@10, -, Block@21)), -, Block@34 (Empty@36))",
	} {
		readsOne(t, s, want)
	}
}

// P6.1: values: numbers, texts, names, words, lists, objects, functions.
func TestPrimaries(t *testing.T) {
	for s, want := range map[string]string{
		"a":                           "Name@3 'a'",
		"get":                         "Name@3 'get'",
		"set":                         "Name@3 'set'",
		"of":                          "Name@3 'of'",
		"0":                           "Number@3 #0",
		"0x1F":                        "Number@3 #31",
		"1.5e3":                       "Number@3 #1500",
		"1e400":                       "Number@3 #+Inf",
		"''":                          "String@3",
		"'a\\n\\x00'":                 "String@3 'a\n\x00'",
		"\"this\"":                    "String@3 'this'",
		"true":                        "True@3",
		"false":                       "False@3",
		"null":                        "Null@3",
		"undefined":                   "Undefined@3",
		"this":                        "This@3",
		"(this)":                      "This@4",
		"[]":                          "Array@3",
		"[a]":                         "Array@3 (Name@4 'a')",
		"[a, [], b = 1]":              "Array@3 (Name@4 'a', Array@7, Assign@11 = (Name@11 'b', Number@15 #1))",
		"{}":                          "Object@3",
		"{a: 1}":                      "Object@3 (Prop@4 init (String@4 'a', Number@7 #1))",
		"{if: a, 'b c': b = 2, 3: c}": "Object@3 (Prop@4 init (String@4 'if', Name@8 'a'), Prop@11 init (String@11 'b c', Assign@18 = (Name@18 'b', Number@22 #2)), Prop@25 init (Number@25 #3, Name@28 'c'))",
		"{[a = 1]: 2, [(b)]: 3}":      "Object@3 (Prop@4 init (Assign@5 = (Name@5 'a', Number@9 #1), Number@13 #2), Prop@16 init (Name@18 'b', Number@23 #3))",
		"{get: 1, set: 2, of: 3}":     "Object@3 (Prop@4 init (String@4 'get', Number@9 #1), Prop@12 init (String@12 'set', Number@17 #2), Prop@20 init (String@20 'of', Number@24 #3))",
		"{get a() {}, set a(b) {}}":   "Object@3 (Prop@4 get (String@8 'a', Function@9 (Block@12)), Prop@16 set (String@20 'a', Function@21 (Name@22 'b', Block@25)))",
		"{get get(a, b) {}, set set() {}, get set() {}}": "Object@3 (Prop@4 get (String@8 'get', Function@11 (Name@12 'a', Name@15 'b', Block@18)), Prop@22 set (String@26 'set', Function@29 (Block@32)), Prop@36 get (String@40 'set', Function@43 (Block@46)))",
		"{get if() {}, set 'x'() {}}":                    "Object@3 (Prop@4 get (String@8 'if', Function@10 (Block@13)), Prop@17 set (String@21 'x', Function@24 (Block@27)))",
		"{get 1() {}, set [a]() {}}":                     "Object@3 (Prop@4 get (Number@8 #1, Function@9 (Block@12)), Prop@16 set (Name@21 'a', Function@23 (Block@26)))",
		"{'get': 1, 'set': 2}":                           "Object@3 (Prop@4 init (String@4 'get', Number@11 #1), Prop@14 init (String@14 'set', Number@21 #2))",
		"{a: function b() {}}":                           "Object@3 (Prop@4 init (String@4 'a', Function@7 'b' (Block@20)))",
		"function () {}":                                 "Function@3 (Block@15)",
		"function f(a) { ; }":                            "Function@3 'f' (Name@14 'a', Block@17 (Empty@19))",
		"function * () {}":                               "Function@3 * (Block@17)",
		"function* f(a, b) {}":                           "Function@3 'f' * (Name@15 'a', Name@18 'b', Block@21)",
	} {
		readsOne(t, "x= "+s+";", "Expr@0 (Assign@0 = (Name@0 'x', "+want+"))")
	}
}

// P6.1: members, calls, new.
func TestMembers(t *testing.T) {
	for s, want := range map[string]string{
		"a.b":                    "Member@0 . (Name@0 'a', String@2 'b')",
		"a . if":                 "Member@0 . (Name@0 'a', String@4 'if')",
		"a.get.of":               "Member@0 . (Member@0 . (Name@0 'a', String@2 'get'), String@6 'of')",
		"a[b = c]":               "Member@0 [ (Name@0 'a', Assign@2 = (Name@2 'b', Name@6 'c'))",
		"(a)[(b)]":               "Member@1 [ (Name@1 'a', Name@5 'b')",
		"a()":                    "Call@0 (Name@0 'a')",
		"a(b)":                   "Call@0 (Name@0 'a', Name@2 'b')",
		"a(b, c = 1)(d)":         "Call@0 (Call@0 (Name@0 'a', Name@2 'b', Assign@5 = (Name@5 'c', Number@9 #1)), Name@12 'd')",
		"a.b[c](d).e":            "Member@0 . (Call@0 (Member@0 [ (Member@0 . (Name@0 'a', String@2 'b'), Name@4 'c'), Name@7 'd'), String@10 'e')",
		"1 .a":                   "Member@0 . (Number@0 #1, String@3 'a')",
		"'a'.b":                  "Member@0 . (String@0 'a', String@4 'b')",
		"[].a":                   "Member@0 . (Array@0, String@3 'a')",
		"new a":                  "New@0 (Name@4 'a')",
		"new a()":                "New@0 (Name@4 'a')",
		"new a(b, c)":            "New@0 (Name@4 'a', Name@6 'b', Name@9 'c')",
		"new a.b":                "New@0 (Member@4 . (Name@4 'a', String@6 'b'))",
		"new a[b].c(d)":          "New@0 (Member@4 . (Member@4 [ (Name@4 'a', Name@6 'b'), String@9 'c'), Name@11 'd')",
		"new a(b)(c)":            "Call@0 (New@0 (Name@4 'a', Name@6 'b'), Name@9 'c')",
		"new a(b)[c]":            "Member@0 [ (New@0 (Name@4 'a', Name@6 'b'), Name@9 'c')",
		"new (a.b)(c)":           "New@0 (Member@5 . (Name@5 'a', String@7 'b'), Name@10 'c')",
		"new (a(b))(c)":          "New@0 (Call@5 (Name@5 'a', Name@7 'b'), Name@11 'c')",
		"new new a":              "New@0 (New@4 (Name@8 'a'))",
		"new new a()":            "New@0 (New@4 (Name@8 'a'))",
		"new new a(b)(c)":        "New@0 (New@4 (Name@8 'a', Name@10 'b'), Name@13 'c')",
		"new new a(b).c(d)(e)":   "Call@0 (New@0 (Member@4 . (New@4 (Name@8 'a', Name@10 'b'), String@13 'c'), Name@15 'd'), Name@18 'e')",
		"new new a.b(c)":         "New@0 (New@4 (Member@8 . (Name@8 'a', String@10 'b'), Name@12 'c'))",
		"new this":               "New@0 (This@4)",
		"new {}":                 "New@0 (Object@4)",
		"new function () {} (a)": "New@0 (Function@4 (Block@16), Name@20 'a')",
	} {
		readsOne(t, s+";", "Expr@0 ("+want+")")
	}
}

// P6.1: signs ahead, and behind.
func TestUnaries(t *testing.T) {
	for _, sign := range strings.Fields(unarySigns) {
		kind := "Unary@0 "
		if sign == "++" || sign == "--" {
			kind = "Update@0 'pre' "
		}
		at := string(rune('0' + len(sign) + 1))
		readsOne(t, sign+" a.b;", "Expr@0 ("+kind+sign+" (Member@"+at+" . (Name@"+at+" 'a', String@"+string(at[0]+2)+" 'b')))")
	}
	for s, want := range map[string]string{
		"a++":             "Update@0 'post' ++ (Name@0 'a')",
		"a.b --":          "Update@0 'post' -- (Member@0 . (Name@0 'a', String@2 'b'))",
		"(a)++":           "Update@1 'post' ++ (Name@1 'a')",
		"++(a[0])":        "Update@0 'pre' ++ (Member@3 [ (Name@3 'a', Number@5 #0))",
		"-a++":            "Unary@0 - (Update@1 'post' ++ (Name@1 'a'))",
		"- -a":            "Unary@0 - (Unary@2 - (Name@3 'a'))",
		"!~+-a":           "Unary@0 ! (Unary@1 ~ (Unary@2 + (Unary@3 - (Name@4 'a'))))",
		"typeof void a":   "Unary@0 typeof (Unary@7 void (Name@12 'a'))",
		"- --a":           "Unary@0 - (Update@2 'pre' -- (Name@4 'a'))",
		"delete a++":      "Unary@0 delete (Update@7 'post' ++ (Name@7 'a'))",
		"delete 1":        "Unary@0 delete (Number@7 #1)",
		"delete a()":      "Unary@0 delete (Call@7 (Name@7 'a'))",
		"delete delete 1": "Unary@0 delete (Unary@7 delete (Number@14 #1))",
		"typeof new a":    "Unary@0 typeof (New@7 (Name@11 'a'))",
		"-1 .a":           "Unary@0 - (Member@1 . (Number@1 #1, String@4 'a'))",
	} {
		readsOne(t, s+";", "Expr@0 ("+want+")")
	}
}

func kindOfSign(sign string) int {
	if sign == "&&" || sign == "||" {
		return api.NodeLogic
	}
	return api.NodeBinary
}

// P6.1: signs of one row stand together from the left, those of a later one bind more: each two of all signs.
func TestRows(t *testing.T) {
	name := func(s string) api.Node { return api.Node{Kind: api.NodeName, At: int(s[0]), Name: s} }
	two := func(sign string, a, b api.Node) api.Node {
		return api.Node{Kind: kindOfSign(sign), At: a.At, Op: sign, Kids: []api.Node{a, b}}
	}
	check := func(first, second string, secondMore bool) {
		want := two(second, two(first, name("a"), name("b")), name("c"))
		if secondMore {
			want = two(first, name("a"), two(second, name("b"), name("c")))
		}
		n := fine(t, "a "+first+" b "+second+" c;")
		if got := told(byName(n.Kids[0].Kids[0])); got != told(want) {
			t.Errorf("%s, %s: %s", first, second, got)
		}
	}
	for i, row := range rows {
		for _, first := range row {
			for j, other := range rows {
				for _, second := range other {
					check(first, second, j > i)
				}
			}
		}
	}
}

// byName sets all places to what the first name below has.
func byName(n api.Node) api.Node {
	if n.Kind == api.NodeName {
		n.At = int(n.Name[0])
		return n
	}
	var kids []api.Node
	for _, k := range n.Kids {
		kids = append(kids, byName(k))
	}
	n.Kids, n.At = kids, kids[0].At
	return n
}

// P6.1: a sign of each row, those that bind more behind those that bind less, and the other way.
func TestAllRows(t *testing.T) {
	rising, falling := "a", "a"
	wantRising, wantFalling := "a", "a"
	for i := range rows {
		sign := rows[len(rows)-1-i][0]
		rising = "a " + sign + " " + rising
		wantRising = "(a " + sign + " " + wantRising + ")"
		falling = falling + " " + sign + " a"
		wantFalling = "(" + wantFalling + " " + sign + " a)"
	}
	for s, want := range map[string]string{rising: wantRising, falling: wantFalling} {
		if got := infix(fine(t, s+";").Kids[0].Kids[0]); got != want {
			t.Errorf("%s: %s, want %s", s, got, want)
		}
	}
}

// infix writes a tree of names and of signs between two, all in parentheses.
func infix(n api.Node) string {
	if len(n.Kids) < 2 {
		return n.Name
	}
	return "(" + infix(n.Kids[0]) + " " + n.Op + " " + infix(n.Kids[1]) + ")"
}

// P6.1: assignments, conditions.
func TestAssigns(t *testing.T) {
	for _, sign := range strings.Fields(assignSigns) {
		at := string(rune('0' + len(sign) + 3))
		readsOne(t, "a "+sign+" b;", "Expr@0 (Assign@0 "+sign+" (Name@0 'a', Name@"+at[len(at)-1:]+" 'b'))")
	}
	for s, want := range map[string]string{
		"a = b += c":        "Assign@0 = (Name@0 'a', Assign@4 += (Name@4 'b', Name@9 'c'))",
		"a.b = c":           "Assign@0 = (Member@0 . (Name@0 'a', String@2 'b'), Name@6 'c')",
		"a[b] = c":          "Assign@0 = (Member@0 [ (Name@0 'a', Name@2 'b'), Name@7 'c')",
		"(a) = c":           "Assign@1 = (Name@1 'a', Name@6 'c')",
		"((a.b)) = c":       "Assign@2 = (Member@2 . (Name@2 'a', String@4 'b'), Name@10 'c')",
		"new a().b = c":     "Assign@0 = (Member@0 . (New@0 (Name@4 'a'), String@8 'b'), Name@12 'c')",
		"a ? b : c":         "Cond@0 (Name@0 'a', Name@4 'b', Name@8 'c')",
		"a ? b : c ? d : e": "Cond@0 (Name@0 'a', Name@4 'b', Cond@8 (Name@8 'c', Name@12 'd', Name@16 'e'))",
		"a ? b ? c : d : e": "Cond@0 (Name@0 'a', Cond@4 (Name@4 'b', Name@8 'c', Name@12 'd'), Name@16 'e')",
		"a ? b = 1 : c = 2": "Cond@0 (Name@0 'a', Assign@4 = (Name@4 'b', Number@8 #1), Assign@12 = (Name@12 'c', Number@16 #2))",
		"a || b ? c : d":    "Cond@0 (Logic@0 || (Name@0 'a', Name@5 'b'), Name@9 'c', Name@13 'd')",
		"a = b ? c : d":     "Assign@0 = (Name@0 'a', Cond@4 (Name@4 'b', Name@8 'c', Name@12 'd'))",
		"(a + b) * c":       "Binary@1 * (Binary@1 + (Name@1 'a', Name@5 'b'), Name@10 'c')",
	} {
		readsOne(t, s+";", "Expr@0 ("+want+")")
	}
}

// P6.1: a yield, ahead of each of the tokens behind which it has no Assign, and of others.
func TestYields(t *testing.T) {
	for s, want := range map[string]string{
		"yield;":                      "Expr@15 (Yield@15 (-))",
		"yield a;":                    "Expr@15 (Yield@15 (Name@21 'a'))",
		"yield a = b;":                "Expr@15 (Yield@15 (Assign@21 = (Name@21 'a', Name@25 'b')))",
		"yield yield;":                "Expr@15 (Yield@15 (Yield@21 (-)))",
		"yield yield a;":              "Expr@15 (Yield@15 (Yield@21 (Name@27 'a')))",
		"yield - a + b;":              "Expr@15 (Yield@15 (Binary@21 + (Unary@21 - (Name@23 'a'), Name@27 'b')))",
		"(yield);":                    "Expr@15 (Yield@16 (-))",
		"(yield) + a;":                "Expr@15 (Binary@16 + (Yield@16 (-), Name@25 'a'))",
		"a = yield;":                  "Expr@15 (Assign@15 = (Name@15 'a', Yield@19 (-)))",
		"a[yield];":                   "Expr@15 (Member@15 [ (Name@15 'a', Yield@17 (-)))",
		"[yield, yield];":             "Expr@15 (Array@15 (Yield@16 (-), Yield@23 (-)))",
		"f(yield, 1);":                "Expr@15 (Call@15 (Name@15 'f', Yield@17 (-), Number@24 #1))",
		"({a: yield});":               "Expr@15 (Object@16 (Prop@17 init (String@17 'a', Yield@20 (-))))",
		"({a: yield, b: 1});":         "Expr@15 (Object@16 (Prop@17 init (String@17 'a', Yield@20 (-)), Prop@27 init (String@27 'b', Number@30 #1)))",
		"({[yield]: 1});":             "Expr@15 (Object@16 (Prop@17 init (Yield@18 (-), Number@26 #1)))",
		"({get [yield]() {}});":       "Expr@15 (Object@16 (Prop@17 get (Yield@22 (-), Function@28 (Block@31))))",
		"a ? yield : yield;":          "Expr@15 (Cond@15 (Name@15 'a', Yield@19 (-), Yield@27 (-)))",
		"if (yield) yield;":           "If@15 (Yield@19 (-), Expr@26 (Yield@26 (-)), -)",
		"for (yield; yield; yield) ;": "For@15 (Yield@20 (-), Yield@27 (-), Yield@34 (-), Empty@41)",
		"return yield;":               "Return@15 (Yield@22 (-))",
		"let b = yield;":              "Let@15 'b' (Yield@23 (-))",
		"a.yield;":                    "Expr@15 (Member@15 . (Name@15 'a', String@17 'yield'))",
		"({yield: 1});":               "Expr@15 (Object@16 (Prop@17 init (String@17 'yield', Number@24 #1)))",
	} {
		readsOne(t, "function* f(){ "+s+"}", "Declare@0 'f' * (Block@13 ("+want+"))")
	}
	readsOne(t, "x = function* () { yield; };", "Expr@0 (Assign@0 = (Name@0 'x', Function@4 * (Block@17 (Expr@19 (Yield@19 (-))))))")
	readsOne(t, "function f() { function* g() { yield; } }", "Declare@0 'f' (Block@13 (Declare@15 'g' * (Block@29 (Expr@31 (Yield@31 (-))))))")
	readsOne(t, "function* f() { function g() {} yield; }", "Declare@0 'f' * (Block@14 (Declare@16 'g' (Block@29), Expr@32 (Yield@32 (-))))")
}

// P6.1: a number's Num, and a string's Name, are its token's.
func TestTokens(t *testing.T) {
	for _, s := range []string{"0", "7", "0.1", "1e-7", "0xffffffffffffff", "123456789012345678901234567890", "'a'", `"\t\\\"\xff"`, `'\''`} {
		tokens, _, _ := lex.Scan(s)
		n := fine(t, s+";")
		if k := n.Kids[0].Kids[0]; k.Num != tokens[0].Num || k.Name != tokens[0].Text {
			t.Errorf("%s: %+v, %+v", s, k, tokens[0])
		}
	}
}

// R5, R6: what is told is the caller's own, and the same each time.
func TestOwnMemory(t *testing.T) {
	s := "function* f(a, b) { yield a + b * 2 < c; return new a(b).c[d](e, {x: [1]}); } for (;;) try {} finally {} if (a) b;"
	first := fine(t, s)
	want := told(first)
	spoil(&first)
	if got := told(fine(t, s)); got != want {
		t.Errorf("got %s, want %s", got, want)
	}
	second, _, _ := parse.Parse(s)
	apart(t, &second, map[*api.Node]int{})
}

func spoil(n *api.Node) {
	for i := range n.Kids {
		spoil(&n.Kids[i])
	}
	*n = api.Node{Kind: 99, Name: "spoilt", Kids: append(n.Kids, api.Node{Kind: 98})}
}

// apart: no two lists of one tree share memory, not even behind their ends.
func apart(t *testing.T, n *api.Node, seen map[*api.Node]int) {
	all := n.Kids[:cap(n.Kids)]
	for i := range all {
		if seen[&all[i]]++; seen[&all[i]] > 1 {
			t.Errorf("%+v is twice in the tree's memory", all[i])
		}
	}
	for i := range n.Kids {
		apart(t, &n.Kids[i], seen)
	}
}
