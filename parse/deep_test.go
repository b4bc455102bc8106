package parse_test

import (
	"strings"
	"testing"

	"brazier/api"
)

// nest is a text of n pieces, one within the other.
func nest(open string, n int, core, shut string) string {
	return strings.Repeat(open, n) + core + strings.Repeat(shut, n)
}

// P6.1: 60 of Stmt, Assign, Unary, and what stands behind a new, one within the other, and one more: most is how many pieces there may be, into how many bytes behind the last of one more the one begins that is too much.
func TestDeep(t *testing.T) {
	for _, k := range []struct {
		ahead, open, core, shut, behind string
		most, into                      int
	}{
		{"", "{", "", "}", "", 60, -1},
		{"", "{", ";", "}", "", 59, 0},
		{"", "a:", ";", "", "", 59, 0},
		{"", "if(a)", ";", "", "", 58, -2},
		{"", "if(a);else ", ";", "", "", 58, -8},
		{"", "while(a)", ";", "", "", 58, -2},
		{"", "for(;;)", ";", "", "", 59, 0},
		{"", "for(let a of b)", ";", "", "", 58, -2},
		{"", "try{", ";", "}finally{}", "", 59, 0},
		{"", "try{}catch(e){", ";", "}", "", 59, 0},
		{"", "try{}finally{", ";", "}", "", 59, 0},
		{"", "{", "a;", "}", "", 57, 0},
		{"", "{", "return;", "}", "", 59, 0},
		{"", "{", "let a;", "}", "", 60, -1},
		{"", "{", "let a=b;", "}", "", 58, 6},
		{"", "{", "function f(){}", "}", "", 60, -1},
		{"", "{", "function f(){;}", "}", "", 59, 13},
		{"", "a=", "a", "", ";", 57, 0},
		{"let x=", "a=", "a", "", ";", 58, 0},
		{"", "a?a:", "a", "", ";", 57, -2},
		{"", "a?", "a", ":a", ";", 57, 0},
		{"", "- ", "a", "", ";", 57, 0},
		{"", "!", "a", "", ";", 57, 0},
		{"", "typeof ", "a", "", ";", 57, 0},
		{"return ", "void ", "a", "", ";", 57, 0},
		{"const x=", "~", "a", "", ";", 58, 0},
		{"", "new ", "a", "", ";", 57, 0},
		{"", "new ", "a", "()", ";", 57, 0},
		{"", "new ", "a", "", ".b();", 57, 0},
		{"function*f(){", "yield ", "", "", ";}", 59, -6},
		{"function*f(){", "yield ", "a", "", ";}", 57, 0},
		{"function*f(){", "yield(", "a", ")", ";}", 19, -1},
		{"", "(", "a", ")", ";", 28, 0},
		{"{", "(", "a", ")", ";}", 28, 0},
		{"{{", "(", "a", ")", ";}}", 27, 0},
		{"", "[", "a", "]", ";", 28, 0},
		{"", "[", "", "]", ";", 29, -1},
		{"", "a[", "a", "]", ";", 28, 0},
		{"", "a(", "a", ")", ";", 28, 0},
		{"", "-(", "a", ")", ";", 19, -1},
		{"", "new (", "a", ")", ";", 19, -1},
		{"", "new a(", "a", ")", ";", 19, -2},
		{"", "new a[", "a", "]", ";", 19, -2},
		{"", "new a().b[", "a", "]", ";", 28, 0},
		{"", "new a()(", "a", ")", ";", 28, 0},
		{"x=", "{a:", "a", "}", ";", 28, 0},
		{"x=", "{[", "a", "]:1}", ";", 28, 0},
		{"x=", "{get a(){x=", "1", ";}}", ";", 14, -2},
		{"function f(){", "x=function(){", ";", "};", "}", 14, 0},
		{"", "-new a(", "a", ")", ";", 14, -2},
		{"", "(a=new a[", "a", "])", ";", 9, -2},
	} {
		fine(t, k.ahead+nest(k.open, k.most, k.core, k.shut)+k.behind)
		s := k.ahead + nest(k.open, k.most+1, k.core, k.shut) + k.behind
		wrong(t, s, len(k.ahead)+len(k.open)*(k.most+1)+k.into, api.ErrParseDeep)
	}
}

// P6.1: what is counted is what lies around, not what stands beside, or was left again.
func TestDeepBeside(t *testing.T) {
	full := nest("(", 28, "a", ")")
	for _, s := range []string{
		full + ";", full + "+" + full + ";", full + "?a:a;", "[" + full[1:len(full)-1] + "," + full[1:len(full)-1] + "];",
		nest("{", 60, "", "}") + nest("{", 60, "", "}"),
		"{" + nest("{", 59, "", "}") + nest("{", 58, "", "}") + "}",
		nest("new ", 57, "a", "()") + ";" + nest("- ", 57, "a", "") + ";",
		"if(a)" + nest("{", 59, "", "}") + "else" + nest("{", 59, "", "}"),
		nest("function f(){", 20, nest("{", 60, "", "}"), "}"),
		strings.Repeat(nest("new ", 57, "a", "")+"+", 20) + "a;",
	} {
		fine(t, s)
	}
	wrong(t, full+"+"+nest("(", 29, "a", ")")+";", len(full)+1+29, api.ErrParseDeep)
	wrong(t, nest("{", 60, "", "}")+nest("{", 61, "", "}"), 180, api.ErrParseDeep)
	wrong(t, nest("function f(){", 20, nest("{", 61, "", "}"), "}"), 20*13+60, api.ErrParseDeep)
}

// P6.1: depth and other faults: at one token a fault of that token is told, for nothing begins there.
func TestDeepOrOther(t *testing.T) {
	wrong(t, strings.Repeat("(", 1000), 29, api.ErrParseDeep)
	wrong(t, strings.Repeat("--", 1000), 116, api.ErrParseDeep)
	wrong(t, strings.Repeat("{", 1000), 60, api.ErrParseDeep)
	wrong(t, strings.Repeat("{", 60)+"a = 1 = 2;", 60, api.ErrParseDeep)
	wrong(t, "1 = "+strings.Repeat("(", 60), 0, api.ErrParseLeft)
	wrong(t, strings.Repeat("(", 20)+") "+strings.Repeat("(", 60), 20, api.ErrParseForm)
	wrong(t, strings.Repeat("(", 29)+")", 29, api.ErrParseForm)
	wrong(t, strings.Repeat("(", 29), 29, api.ErrParseForm)
	wrong(t, strings.Repeat("(", 29)+"yield", 29, api.ErrParseForm)
	wrong(t, strings.Repeat("new ", 58)+"-", 232, api.ErrParseForm)
	wrong(t, strings.Repeat("{", 60), 60, api.ErrParseForm)
	wrong(t, strings.Repeat("{", 60)+")", 60, api.ErrParseForm)
	wrong(t, strings.Repeat("a:", 60)+"else", 120, api.ErrParseForm)
	for _, word := range []string{"let", "const", "function"} {
		wrong(t, strings.Repeat("a:", 60)+word, 120, api.ErrParseHere)
		wrong(t, strings.Repeat("a:", 61)+word, 120, api.ErrParseDeep)
	}
	wrong(t, strings.Repeat("++", 57)+"1", 114, api.ErrParseLeft)
	wrong(t, strings.Repeat("- ", 56)+"delete a", 112, api.ErrParseDelete)
	wrong(t, strings.Repeat("- ", 57)+"delete a", 121, api.ErrParseDeep)
}

// P6.1: 300 nodes one below the other, and one more; a node of nothing is one too.
func TestTall(t *testing.T) {
	for _, k := range []struct {
		ahead, more, behind string
		most                int
	}{
		{"a", "+a", ";", 297},
		{"a", "||a", ";", 297},
		{"a", ".b", ";", 297},
		{"a", "[b]", ";", 297},
		{"a", "()", ";", 297},
		{"x=a", "()", ";", 296},
		{"(a)", "(b,c)", ";", 297},
		{"a.b", "+c", ";", 296},
		{"new a()", ".b", ";", 296},
		{"new a", ".b", ";", 296},
		{"let x=a", ".b", ";", 297},
		{"{{a", ".b", ";}}", 295},
		{"(function(){})", ".b", ";", 296},
		{"(function(){;})", ".b", ";", 295},
		{"(function(){return;})", ".b", ";", 294},
		{"(function(){return a;})", ".b", ";", 294},
		{"(function(){let a;})", ".b", ";", 294},
		{"(function(){if(a);})", ".b", ";", 294},
		{"(function*(){yield;})", ".b", ";", 293},
		{"({a:1})", ".b", ";", 295},
		{"a.b", "*b", "+1;", 295},
	} {
		fine(t, k.ahead+strings.Repeat(k.more, k.most)+k.behind)
		wrong(t, k.ahead+strings.Repeat(k.more, k.most+1)+k.behind, 0, api.ErrParseDeep)
		wrong(t, " ;"+k.ahead+strings.Repeat(k.more, k.most+1)+k.behind+"{}", 0, api.ErrParseDeep)
	}
	fine(t, nest("function f(){", 149, ";", "}"))
	fine(t, nest("function f(){", 149, "", "}"))
	wrong(t, nest("function f(){", 149, "a;", "}"), 0, api.ErrParseDeep)
	wrong(t, nest("function f(){", 150, "", "}"), 0, api.ErrParseDeep)
	fine(t, strings.Repeat("a.b+c;", 300))
}

// P6.1: that it is too tall is told when all is read.
func TestTallLast(t *testing.T) {
	tall := "a" + strings.Repeat("+a", 400)
	wrong(t, tall, 801, api.ErrParseForm)
	wrong(t, tall+"; 1 = 2;", 803, api.ErrParseLeft)
	wrong(t, tall+"; delete a;", 803, api.ErrParseDelete)
	wrong(t, tall+"; if (a) let b;", 810, api.ErrParseHere)
	wrong(t, tall+" = 1;", 0, api.ErrParseLeft)
	wrong(t, tall+";"+strings.Repeat("{", 61), 862, api.ErrParseDeep)
	wrong(t, "a"+strings.Repeat("+a", 32766)+";;;", 0, api.ErrParseDeep)
	wrong(t, nest("function f(){", 4600, "", "}"), 0, api.ErrParseDeep)
	wrong(t, strings.Repeat("function f(){", 5000), 65000, api.ErrParseForm)
}
