package machine_test

import (
	"fmt"
	"slices"
	"strings"
	"testing"

	"brazier/api"
	"brazier/machine"
	"brazier/parse"
	"brazier/scope"
)

// maker writes programs by chance that come to an end, as a rule, and print much of what they do. What is done with properties, natives, conversions, calls and generators is what they are after.
type maker struct {
	chance
	star bool // within a generator
	fn   bool
	tags int
}

// helpers are what each program begins with. Whatever may go on and on asks tick.
const helpers = `let fuel = 150;
function tick() { fuel -= 1; return fuel > 0; }
function v(tag, x, y) { return {valueOf: function () { print("value", tag); return x; }, toString: function () { print("text", tag); return y; }}; }
function see(tag, x) {
  print(tag, typeof x, x);
  if (typeof x !== "object" && typeof x !== "function" || x === null) { return; }
  for (const k of Object.keys(x)) {
    let d = Object.getOwnPropertyDescriptor(x, k);
    print(k, d.value, d.writable, d.get, d.set, d.enumerable, d.configurable);
  }
  print(Object.getPrototypeOf(x) === Object.prototype, Object.isExtensible(x), Array.isArray(x), x.length, x.x, x.y);
}
function deep(n, f) { return n > 0 ? deep(n - 1, f) : f(1, 2); }
function drive(g, how, x) { let r = g[how](x); print(how, r.value, r.done); return r; }
`

var vars = []string{"a", "b", "c", "d", "e", "f", "g", "h"}

func (m *maker) tag() string {
	m.tags++
	return fmt.Sprintf("%q", fmt.Sprint("#", m.tags))
}

func (m *maker) program(size int) string {
	var l []string
	for _, name := range vars {
		l = append(l, "let "+name+" = "+m.start()+";")
	}
	for range 3 + m.below(size) {
		l = append(l, m.stmt(1+m.below(12)))
	}
	for _, name := range vars {
		l = append(l, m.guarded("see("+m.tag()+", "+name+");"))
	}
	return helpers + strings.Join(l, "\n")
}

// start is a value that can be had while nothing is reached yet.
func (m *maker) start() string {
	return m.of("{x: 1, y: 2}", "{get x() { return this.y; }, set x(q) { this.y = q; }, y: 5}", "[1, 2, 3]", "[]", "\"abc\"", "12", "-0", "2147483647",
		"function (p, q) { print(\"called\", this, p, q); return p; }", "function* (p) { let r = yield p; print(\"sent\", r); yield r; return 9; }", "Object.create({x: 7})", "new Error(\"m\")",
		"function F(p) { this.x = p; }", "v(0, 3, \"x\")", "(function* () { try { yield 1; yield 2; } finally { print(\"end\"); } })()")
}

func (m *maker) guarded(s string) string {
	return "try { " + s + " } catch (q) { print(" + m.tag() + ", q); }"
}

func (m *maker) stmt(size int) string {
	switch m.below(13) {
	case 12:
		return m.guarded("see(" + m.tag() + ", deep(" + m.of("191", "194", "195", "196", "197", "198", "199") + ", " + m.of(m.of(vars...), m.function(size/2), m.function(size)) + "));")
	case 0:
		return m.guarded("for (const x of " + m.expr(size/2) + ") { if (!tick()) { break; } see(" + m.tag() + ", x); " + m.inner(size/3) + " }")
	case 1:
		return "while (tick() && " + m.of("fuel % 3", "fuel % 4") + ") { " + m.stmt(size/2) + " }"
	case 2:
		return "if (tick()) { " + m.stmt(size/2) + " " + m.stmt(size/2) + " }"
	case 3, 4, 5:
		return m.guarded(m.of(vars...) + " = " + m.expr(size) + ";")
	case 6:
		return m.guarded("try { " + m.inner(size/2) + " } finally { " + m.inner(size/3) + " }")
	case 7:
		return m.guarded("drive(" + m.expr(size/2) + ", " + m.of(`"next"`, `"next"`, `"throw"`, `"return"`) + ", " + m.expr(size/3) + ");")
	case 8:
		return m.guarded("throw " + m.expr(size) + ";")
	}
	return m.guarded("see(" + m.tag() + ", " + m.expr(size) + ");")
}

// inner is a statement from which an error may get out.
func (m *maker) inner(size int) string {
	switch m.below(5) {
	case 0:
		return m.stmt(size)
	case 1:
		if m.fn {
			return "return " + m.expr(size) + ";"
		}
	case 2:
		if m.star {
			return m.of(vars...) + " = yield " + m.expr(size) + ";"
		}
	}
	return "see(" + m.tag() + ", " + m.expr(size) + ");"
}

func (m *maker) function(size int) string {
	inner := maker{chance: m.chance, star: m.below(4) == 0, fn: true, tags: m.tags}
	star := ""
	if inner.star {
		star = "*"
	}
	s := "(function" + star + " (p, q) { if (!tick()) { return 0; } "
	for range 1 + inner.below(3) {
		s += inner.inner(size / 2)
	}
	s += " return " + inner.of("p", "q", "this", inner.expr(size/2)) + "; })"
	m.chance, m.tags = inner.chance, inner.tags
	return s
}

func (m *maker) key(size int) string {
	switch m.below(4) {
	case 0:
		return m.of(`"x"`, `"y"`, `0`, `1`, `"length"`)
	case 1:
		return m.of(`"prototype"`, `"constructor"`, `"message"`, `"name"`, `"toString"`, `"valueOf"`, `"$$iterator"`, `"next"`, `"value"`, `"done"`, `-1`, `1.5`, `4095`, `4096`, `"01"`, `null`, `v(`+m.tag()+`, 1, "x")`)
	case 2:
		return m.of(`"x"`, `"y"`)
	}
	return m.expr(size)
}

func (m *maker) member(size int) string {
	of := m.expr(size / 2)
	if m.below(2) == 0 {
		return "(" + of + ")" + m.of(".x", ".y", ".length", ".prototype", ".constructor", ".message", ".name")
	}
	return "(" + of + ")[" + m.key(size/3) + "]"
}

func (m *maker) given(size int) string {
	if m.below(2) == 0 {
		return m.of(vars...)
	}
	return m.member(size)
}

// wish is what defineProperty is asked for.
func (m *maker) wish(size int) string {
	if m.below(10) == 0 {
		return m.expr(size)
	}
	var l []string
	add := func(often int, key, value string) {
		if m.below(often) == 0 {
			l = append(l, key+": "+value)
		}
	}
	truth := func() string { return m.of("true", "true", "false", "false", "0", `"x"`) }
	if m.below(3) == 0 {
		add(2, "get", m.of("undefined", "a", "print", "tick", m.function(size/2)))
		add(2, "set", m.of("undefined", "b", "print", m.function(size/2)))
		add(9, "value", "1")
	} else {
		add(2, "value", m.expr(size))
		add(2, "writable", truth())
	}
	add(2, "enumerable", truth())
	add(2, "configurable", truth())
	if m.below(12) == 0 {
		l = append(l, "get "+m.of("value", "get", "enumerable")+"() { return 1; }")
	}
	return "{" + strings.Join(l, ", ") + "}"
}

func (m *maker) args(size int) string {
	var l []string
	for range m.below(4) {
		l = append(l, m.expr(size/3))
	}
	return strings.Join(l, ", ")
}

// called is a call of a native.
func (m *maker) called(size int) string {
	e := func() string { return m.expr(size / 2) }
	name := m.of(vars...)
	switch m.below(12) {
	case 0:
		return "Object." + m.of("create", "getPrototypeOf", "keys", "preventExtensions", "isExtensible") + "(" + m.of(name, e()) + ")"
	case 1:
		return "Object.setPrototypeOf(" + m.of(name, e()) + ", " + m.of(m.of(vars...), "null", e()) + ")"
	case 2, 3:
		return "Object.defineProperty(" + m.of(name, name, e()) + ", " + m.key(size/3) + ", " + m.wish(size/3) + ")"
	case 4:
		return "Object.getOwnPropertyDescriptor(" + e() + ", " + m.key(size/3) + ")"
	case 5:
		return "(" + e() + ")." + m.of("hasOwnProperty", "push", "pop", "toString", "valueOf", "indexOf", "charCodeAt", "slice", "next", "throw", "return", "$$iterator") + "(" + m.of(m.args(size), m.key(size/3)) + ")"
	case 6:
		return m.of("", "new ") + m.of("String", "Number", "Boolean", "Object", "Array", "Error", "TypeError", "RangeError", "ReferenceError", "Function") + "(" + m.of(m.of(vars...), e()) + ")"
	case 7:
		return "Math." + m.of("floor", "trunc", "abs", "min", "max", "imul") + "(" + m.args(size) + ")"
	case 8:
		return "(" + e() + ").call(" + m.args(size) + ")"
	case 9:
		return "(" + e() + ").apply(" + m.of(m.of(vars...), e()) + ", " + m.of("[1, 2]", "a", "b", "c", e()) + ")"
	case 10:
		return m.of("Array.isArray", "Object.prototype.hasOwnProperty.call", "Object.prototype.toString.call", "String.prototype.slice.call", "String.prototype.toString.call", "String.prototype.indexOf.call", "Number.prototype.valueOf.call",
			"Array.prototype.push.call", "Array.prototype.pop.call", "Error.prototype.toString.call", "Function.prototype.toString.call", "Boolean.prototype.toString.call") + "(" + m.args(size) + ")"
	}
	return "(" + m.of("\"abcabc\"", "\"\"", "b", "(\"\" + c)") + ")." + m.of("slice", "slice", "indexOf", "charCodeAt") + "(" + m.of("-1", "1", "NaN", "-9", "Infinity", "0.9", "\"b\"", "undefined", "{}", e()) + m.of("", ", 2", ", -1", ", undefined", ", {}", ", "+e()) + ")"
}

func (m *maker) leaf() string {
	if m.below(2) == 0 {
		return m.of(vars...)
	}
	return m.of("0", "1", "-0", "2.5", "-1", "2147483648", "4294967295", "1e21", "1e-7", "NaN", "Infinity", "-Infinity", `""`, `"x"`, `"y"`, `"12"`, `" 0x1f "`, `"-3"`, `"length"`,
		"true", "false", "null", "undefined", "{}", "[1, 2]", "{x: 1}", "tick", "print", "Object.prototype", "Array.prototype", "Error.prototype", "String", "Math", "Function.prototype", "print.call", "print.apply",
		"v("+m.tag()+", 4, \"x\")", "v("+m.tag()+", {}, \"y\")", "v("+m.tag()+", \"0\", 1)", "v("+m.tag()+", null, {})", "v("+m.tag()+", {}, {})", "new TypeError(\"t\")")
}

func (m *maker) expr(size int) string {
	if size <= 0 {
		leaf := m.leaf()
		return m.of(leaf, leaf, "("+leaf+")")
	}
	half := func() string { return m.expr(size / 2) }
	switch m.below(18) {
	case 0:
		return "[" + m.args(size) + "]"
	case 1:
		return "({x: " + half() + ", " + m.of("y: ", "x: ", "0: ", "\"a b\": ", "["+m.key(size/3)+"]: ") + half() + "})"
	case 2:
		return "({get x() { return this.y; }, " + m.of("", "set x(q) { see("+m.tag()+", q); this.y = q; }, ", "get y() { return 3; }, ") + "[" + m.key(size/3) + "]: " + half() + "})"
	case 3:
		return m.function(size)
	case 4, 5:
		return m.member(size)
	case 6:
		return "(" + m.of("a", "b", "c", "d", half()) + ")(" + m.args(size) + ")"
	case 7:
		return "(" + m.member(size/2) + ")(" + m.args(size) + ")"
	case 8:
		return "new (" + m.of("a", "b", "c", half()) + ")(" + m.args(size) + ")"
	case 9:
		return "(" + m.of("void ", "typeof ", "+", "-", "~", "!") + "(" + m.expr(size-1) + "))"
	case 10:
		return "delete " + m.member(size)
	case 11:
		return "(" + m.of("++", "--") + m.given(size-1) + ")"
	case 12:
		return "(" + m.given(size/2) + m.of("++", "--") + ")"
	case 13, 14:
		return "(" + half() + " " + m.of("+", "-", "*", "/", "%", "<<", ">>", ">>>", "&", "|", "^", "<", "<=", ">", ">=", "==", "!=", "===", "!==", "in", "instanceof") + " " + half() + ")"
	case 15, 16:
		return m.called(size)
	}
	return "(" + m.given(size/2) + m.of(" = ", " = ", " = ", " += ", " -= ", " *= ", " |= ", " >>>= ") + half() + ")"
}

// made calls f with programs by chance; those that no program may be are left out.
func made(c chance, times, size int, f func(s string)) {
	for range times {
		m := maker{chance: c}
		s := m.program(size)
		n, _, e := parse.Parse(s)
		if _, _, e2 := scope.Resolve(n); e == api.OK && e2 == api.OK {
			f(s)
		}
		c = m.chance
	}
}

// sameEnd tells whether two runs of one program may be the same. One that was stopped has printed a beginning of what the other one has, or the other way round.
func sameEnd(log []string, end string, log2 []string, end2 string) bool {
	if end == "fuel" || end2 == "fuel" {
		n := min(len(log), len(log2))
		return slices.Equal(log[:n], log2[:n])
	}
	return slices.Equal(log, log2) && end == end2
}

// P17.9, P17.10: what a program prints, and how it ends, is what its tree means; and it comes to that in time.
func TestMeaningByChance(t *testing.T) {
	for part := range 8 {
		t.Run(fmt.Sprint(part), func(t *testing.T) {
			t.Parallel()
			ends, lines := map[string]int{}, 0
			made(chance(part), 400, 20, func(s string) {
				n, _ := treeOf(t, s)
				w := walk(n, 1<<17)
				m := load(t, s)
				run(m, plenty)
				if !sameEnd(w.log, w.end, m.Log(), ended(m)) {
					t.Fatalf("%s\nthe tree prints %q, %s\nthe code prints %q, %s", s, w.log, w.end, m.Log(), ended(m))
				}
				inTime(t, s, w, m)
				ends[w.end]++
				lines += len(w.log)
			})
			t.Log(ends, lines)
			if ends["done"] < 250 || lines < 10000 { // else the programs say too little
				t.Error(ends, lines)
			}
		})
	}
}

// inTime: what ends, ends on the machine, too, by so many instructions.
func inTime(t *testing.T, s string, w *model, m *machine.Machine) {
	t.Helper()
	if w.end != "fuel" && m.Count() > max(1, w.steps)*max(1, len(s))*60 {
		t.Errorf("%.3000s\n%d steps, %d instructions", s, w.steps, m.Count())
	}
}
