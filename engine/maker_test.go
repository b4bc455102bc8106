package engine_test

import (
	"fmt"
	"strings"
)

// maker writes programs by chance. The grammar and the early errors take what it writes, and nearly all of it ends: who calls has to pay of what is left for that.
type maker struct {
	chance
	deep    int
	room    int // for as many statements more that have others in them
	vars    int
	inner   []string // names of the blocks around, that may be given something
	loops   []string // the loops around: their labels, or nothing
	blocks  []string // labels around that are no loop's
	yields  bool
	returns bool
}

// told is laid ahead of each program: what shows all that there is in the end.
const told = `let left = 99;
function pay() { if (left-- < 1) { throw "paid"; } }
function show(o) { for (const k of Object.keys(o)) { let d = Object.getOwnPropertyDescriptor(o, k); print(k, typeof d.get, typeof d.set, d.value, d.writable, d.configurable); } }
let n0 = 1; let n1 = 2147483646; let n2 = -0.5; let s0 = "abc"; let s1 = ""; let v0 = {b: 3}; let v1 = null;
let o0 = {a: 1, b: 2, m: function (x) { pay(); return this.a; }}; let o1 = Object.create(o0); let o2 = {b: "x", get a() { return this.c; }, set a(v) { this.c = v; }}; let l0 = [1, 2, 3]; let l1 = []; let fs = [function (x) { pay(); n0++; return x; }, f1];
`

// tellAll is laid behind it.
const tellAll = `
print(n0, n1, n2, s0.length, s1, v0, v1);
for (const o of [o0, o1, o2, l0, l1, P.prototype]) { try { print(o); show(o); } catch (e) { print("bad", e); } }
left = 9; for (const f of fs) { try { print(f(1)); } catch (e) { print("f", e); } }`

func (k *maker) program() string {
	s := told
	k.vars = 0
	for n := range 3 {
		k.room = 5
		s += fmt.Sprintf("function f%d(a, b) { pay(); %s return %s; }\n", n, k.body(false), k.of("a", "b", "this", "n0", "o0"))
	}
	s += "function P(a, b) { pay(); this.a = a; " + k.body(false) + " } P.prototype.m = function (b) { pay(); return this." + k.key() + "; };\n"
	s += "function Q(a) { P.call(this, a); this.b = a; } Q.prototype = Object.create(P.prototype); let p0 = new Object(P); let q0 = Object.create(Q.prototype);\n"
	for n := range 2 {
		k.room = 5
		s += fmt.Sprintf("function* g%d(a, b) { pay(); %s }\n", n, k.body(true))
	}
	s += "let i0 = g0(1); let i1 = g1(o0);\n"
	for n := range 4 + k.below(6) {
		k.room = 4 + k.below(8)
		s += fmt.Sprintf("left = %d; try { %s } catch (e) { print(\"%d\", e); }\n", 5+k.below(20), k.stmts(3), n)
	}
	return s + tellAll
}

// body is a function's, in which nothing of what stands around it can be left.
func (k *maker) body(star bool) string {
	was := *k
	k.deep, k.room = max(k.deep, 2), min(k.room, 5)
	k.loops, k.blocks, k.yields, k.returns = nil, nil, star, true
	k.inner = append(k.inner[:len(k.inner):len(k.inner)], "a", "b")
	s := k.stmts(3)
	was.chance, was.vars = k.chance, k.vars
	*k = was
	return s
}

func (k *maker) stmts(most int) string {
	var l []string
	known := len(k.inner)
	for range 1 + k.below(most) {
		l = append(l, k.stmt())
	}
	k.inner = k.inner[:known]
	return strings.Join(l, " ")
}

func (k *maker) fresh() string {
	k.vars++
	return fmt.Sprint("w", k.vars)
}

// block is one of braces: its names are known in it alone.
func (k *maker) block(most int) string { return "{ " + k.stmts(most) + " }" }

func (k *maker) stmt() string {
	k.deep++
	defer func() { k.deep-- }()
	if k.room--; k.deep > 5 || k.room < 0 {
		return k.simple()
	}
	switch k.below(17) {
	case 0:
		s := "if (" + k.any() + ") " + k.block(2)
		if k.below(2) == 0 {
			s += " else " + k.block(2)
		}
		return s
	case 1, 2, 3:
		return k.loop()
	case 4:
		return k.each()
	case 5, 6:
		return k.try()
	case 7:
		return k.labelled()
	case 8:
		return k.closure()
	case 9:
		return k.unreached()
	case 10:
		return k.block(3)
	}
	return k.simple()
}

// loop is one that ends: what it counts is nobody else's.
func (k *maker) loop() string {
	i := k.fresh()
	label := ""
	if k.below(3) == 0 {
		label = k.fresh()
	}
	k.loops = append(k.loops, label)
	most := 1 + k.below(7)
	if k.below(4) == 0 {
		most = 12
	}
	s := fmt.Sprintf("while (%s < %d) { %s++; %s }", i, most, i, k.stmts(3))
	if k.below(2) == 0 {
		s = fmt.Sprintf("for (%s = 0; %s < %d; %s++) %s", i, i, most, i, k.block(3))
	}
	k.loops = k.loops[:len(k.loops)-1]
	if label != "" {
		s = label + ": " + s
	}
	return "{ let " + i + " = 0; " + s + " }"
}

func (k *maker) each() string {
	x := k.fresh()
	of := k.of(k.list(), "Object.keys("+k.object()+")", k.text(), "[1, 2, 3]", "g0("+k.any()+")", "g1("+k.any()+")", "i0", "[o0, o1, o2, new P(1)]", k.any())
	kind := k.of("const", "let")
	if kind == "let" {
		k.inner = append(k.inner, x)
		defer func() { k.inner = k.inner[:len(k.inner)-1] }()
	}
	k.loops = append(k.loops, "")
	s := "for (" + kind + " " + x + " of " + of + ") { pay(); " + k.of("", "v0 = "+x+"; ", "print("+x+"); ") + k.stmts(2) + " }"
	k.loops = k.loops[:len(k.loops)-1]
	return s
}

func (k *maker) try() string {
	s := "try " + k.block(3)
	kind := k.below(3)
	if kind > 0 {
		k.inner = append(k.inner, "e")
		s += " catch (e) { print(e); " + k.stmts(2) + " }"
		k.inner = k.inner[:len(k.inner)-1]
	}
	if kind < 2 {
		s += " finally { " + k.of("", `print("fin"); `) + k.stmts(2) + " }"
	}
	return s
}

func (k *maker) labelled() string {
	label := k.fresh()
	k.blocks = append(k.blocks, label)
	s := label + ": " + k.block(3)
	k.blocks = k.blocks[:len(k.blocks)-1]
	return s
}

// closure is one that takes along what is around it, and is called later.
func (k *maker) closure() string {
	x := k.fresh()
	return "let " + x + " = " + k.any() + "; fs.push(function (a, b) { pay(); " + k.of(x+" += a; ", x+"++; ", "") + k.body(false) + " return " + x + "; });"
}

// unreached asks for a name that may not be reached yet.
func (k *maker) unreached() string {
	x := k.fresh()
	return fmt.Sprintf("if (%s) { %s; } let %s = %s; %s = %s;", k.of("n0 > 5", "false", "left % 2", "v0"), k.of("print("+x+")", x+" = 1", x+"++"), x, k.any(), k.lefthand(), x)
}

// leave is a way out of what is around, if there is one.
func (k *maker) leave() string {
	var l []string
	for _, label := range k.loops {
		l = append(l, "break "+label+";", "continue "+label+";")
	}
	for _, label := range k.blocks {
		l = append(l, "break "+label+";")
	}
	if k.returns {
		l = append(l, "return "+k.any()+";", "return;")
	}
	l = append(l, "throw "+k.any()+";")
	s := l[k.below(len(l))]
	if k.below(4) > 0 {
		s = "if (" + k.any() + ") { " + s + " }"
	}
	return s
}

func (k *maker) simple() string {
	switch k.below(15) {
	case 0, 1:
		return "print(" + k.any() + ", " + k.any() + ");"
	case 2, 3:
		return k.lefthand() + " " + k.of("=", "=", "+=", "-=", "*=", "|=", ">>>=", "%=") + " " + k.any() + ";"
	case 4:
		return k.lefthand() + k.of("++;", "--;")
	case 5, 6:
		return k.object() + k.member() + " = " + k.any() + ";"
	case 7:
		return "delete " + k.object() + k.member() + ";"
	case 8, 9:
		return k.leave()
	case 10:
		return k.changed()
	case 11:
		return k.list() + ".push(" + k.any() + ");"
	case 12:
		x := k.fresh()
		s := k.of("let ", "const ") + x + " = " + k.any() + ";"
		if strings.HasPrefix(s, "let") {
			k.inner = append(k.inner, x)
		}
		return s
	case 13:
		if k.yields {
			return k.of("v0 = yield "+k.any()+";", "yield;", "yield "+k.number()+";", "yield (yield "+k.any()+");")
		}
	}
	return k.any() + ";"
}

// changed is what turns an object into one of another sort.
func (k *maker) changed() string {
	o := k.object()
	switch k.below(8) {
	case 0:
		return "Object.defineProperty(" + o + ", \"" + k.key() + "\", {get: function () { pay(); return " + k.of("this.b", "n0++", "3") + "; }, configurable: true});"
	case 1:
		return "Object.defineProperty(" + o + ", \"" + k.key() + "\", {value: " + k.any() + ", writable: " + k.of("true", "false", "n0") + ", enumerable: true" + k.of("", ", configurable: true") + "});"
	case 2:
		return "Object.defineProperty(" + o + ", \"" + k.key() + "\", {set: function (v) { pay(); n1 = v; }, enumerable: true, configurable: true});"
	case 3:
		return "Object.setPrototypeOf(" + o + ", " + k.of(k.object(), "null", "o0", "P.prototype") + ");"
	case 4:
		return k.of("o0", "o1", "o2") + " = " + k.of("{}", "{a: 5}", "new P(7)", "new Q(8)", "Object.create(o0)", k.object()) + ";"
	case 5:
		if k.below(6) == 0 {
			return "Object.preventExtensions(" + o + ");"
		}
		return "Object.prototype." + k.key() + " = " + k.any() + "; delete Object.prototype." + k.key() + ";"
	case 6:
		return k.list() + ".length = " + k.of("0", "2", "5", "-1", "1.5") + ";"
	}
	return "P.prototype." + k.key() + " = " + k.any() + ";"
}

func (k *maker) key() string { return k.of("a", "b", "c", "m", "x", "length") }

func (k *maker) member() string {
	if k.below(3) > 0 {
		return "." + k.key()
	}
	return "[" + k.of("n0", "0", "1", "\"a\"", "\"b\"", "s0", "\"length\"", "\"m\"", k.any()) + "]"
}

func (k *maker) name() string {
	if n := len(k.inner); n > 0 && k.below(2) == 0 {
		return k.inner[k.below(n)]
	}
	return k.of("n0", "n1", "n2", "s0", "s1", "v0", "v1")
}

func (k *maker) lefthand() string { return k.name() }

func (k *maker) list() string { return k.of("l0", "l1", "l0", "l1", "l0", "l1", "l0", "v0") }

func (k *maker) object() string {
	if k.below(12) == 0 {
		return "(" + k.any() + ")"
	}
	return k.of("o0", "o1", "o2", "l0", "p0", "q0", "new P(n0)", "P.prototype", "new Q(3)", k.of("v0", "this", "q0", "o1"))
}

func (k *maker) text() string { return k.of("s0", "s1", `"xy"`, `"0x1F"`, `"12"`, `typeof v0`) }

func (k *maker) number() string {
	return k.of("0", "1", "2", "-1", "3", "7", "0.5", "2147483647", "-2147483648", "1e21", "NaN", "n0", "n1", "n2")
}

// any is a value of whatever kind, in brackets if that is needed.
func (k *maker) any() string {
	k.deep++
	defer func() { k.deep-- }()
	if k.deep > 7 || k.deep > 3 && k.room < 0 {
		return k.of(k.number(), k.text(), k.name(), "true", "null", "undefined", "o0", "l0")
	}
	switch k.below(24) {
	case 0, 1, 2:
		return k.number()
	case 3:
		return k.text()
	case 4, 5:
		return k.name()
	case 6, 7, 8:
		return "(" + k.any() + k.of(" + ", " + ", " - ", " * ", " / ", " % ", " & ", " | ", " ^ ", " << ", " >> ", " >>> ") + k.any() + ")"
	case 9:
		return "(" + k.any() + k.of(" < ", " <= ", " > ", " >= ", " == ", " != ", " === ", " !== ") + k.any() + ")"
	case 10:
		return "(" + k.any() + k.of(" && ", " || ") + k.any() + ")"
	case 11:
		return "(" + k.of("- ", "+ ", "~", "!", "typeof ", "void ") + k.any() + ")"
	case 12, 13:
		return "(" + k.object() + ")" + k.member()
	case 14, 15:
		return k.of("f0", "f1", "f2", "o0.m", "o1.m", "new P(1).m", "q0.m", "fs[0]", "fs[1]") + "(" + k.any() + ")"
	case 16:
		return k.of("[", "[1, ") + k.any() + "]"
	case 17:
		return "({a: " + k.any() + ", " + k.of("b", "c", `["m"]`, "a", "valueOf", "toString") + ": " + k.of(k.any(), "function () { pay(); return n0; }") + "})"
	case 18:
		return k.of("i0", "i1", "g0(1)") + k.of(".next(", ".next(", ".next(", ".throw(", ".return(") + k.any() + ")" + k.of(".value", ".done")
	case 19:
		return "(" + k.lefthand() + " = " + k.any() + ")"
	case 20:
		return "(" + k.any() + " ? " + k.any() + " : " + k.any() + ")"
	case 21:
		return k.native()
	}
	return k.more()
}

func (k *maker) native() string {
	switch k.below(9) {
	case 0:
		return "Object.keys(" + k.object() + ").length"
	case 1:
		return "(" + k.of(`"a"`, `"b"`, "0", "s0") + " in " + k.object() + ")"
	case 2:
		return "(" + k.object() + " instanceof " + k.of("P", "Q", "Object", "Array") + ")"
	case 3:
		return "String(" + k.any() + ")"
	case 4:
		return "Number(" + k.any() + ")"
	case 5:
		return "Math." + k.of("floor", "abs", "max", "imul") + "(" + k.number() + ", " + k.number() + ")"
	case 6:
		return k.text() + ".slice(" + k.number() + ", " + k.of("1", "2", "-1", "9") + ")"
	case 7:
		return k.of("f0", "f1", "P.prototype.m") + k.of(".call("+k.any()+", "+k.any()+")", ".apply("+k.object()+", l0)")
	}
	return k.object() + ".hasOwnProperty(\"" + k.key() + "\")"
}

func (k *maker) more() string {
	switch k.below(6) {
	case 0:
		return "(function (a, b) { pay(); " + k.body(false) + " })"
	case 1:
		return "(" + k.object() + k.member() + k.of(" = ", " += ", " -= ") + k.any() + ")"
	case 2:
		return k.object() + k.member() + k.of("++", "--")
	case 3:
		return "new " + k.of("P", "Q", "f0", "Object", "Error", "f1", "Math", "g0") + "(" + k.any() + ")"
	case 4:
		if k.yields {
			return "(yield " + k.any() + ")"
		}
	}
	return k.list() + "." + k.of("pop()", "length", "push(1)")
}
