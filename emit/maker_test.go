package emit_test

import (
	"fmt"
	"slices"
	"strings"
	"testing"

	"brazier/api"
	"brazier/parse"
	"brazier/scope"
)

// maker writes programs by chance that come to an end, and print much of what they do, and in which order.
type maker struct {
	chance
	blocks []map[string]bool // names that stand around, the outermost first: whether something can be given to them
	star   bool
	fn     bool
	loops  int
	labels []string
	goOn   []string // those of loops
	tags   int
}

// helpers are what each program begins with. Whatever may go on and on asks tick.
const helpers = `let fuel = 120;
function tick() { fuel -= 1; return fuel > 0; }
function t(tag, v) { print(tag, v); return v; }
function v(tag, x) { return {valueOf: function () { print("value", tag); return x; }, toString: function () { print("text", tag); return "" + x; }}; }
`

var pool = []string{"a", "b", "c", "d", "NaN", "Error"}

func (m *maker) tag() string {
	m.tags++
	return fmt.Sprintf("%q", fmt.Sprint("#", m.tags))
}

func (m *maker) program(size int) string {
	m.blocks = []map[string]bool{{}}
	return helpers + m.items(size, pool)
}

// items are a block's, which declares those names, in some order, among its statements.
func (m *maker) items(size int, names []string) string {
	here := m.blocks[len(m.blocks)-1]
	kinds := map[string]string{}
	for _, name := range names {
		kinds[name] = m.of("let", "let", "const", "function")
		here[name] = kinds[name] != "const"
	}
	var l []string
	for _, name := range names {
		l = append(l, m.declare(kinds[name], name, size/6))
	}
	for range min(1+m.below(4), 1+size) {
		l = append(l, m.guarded(m.stmt(size/2)))
	}
	if m.below(8) == 0 { // what is used is often not reached
		m.shuffle(l)
	}
	return strings.Join(l, "\n")
}

func (m *maker) shuffle(l []string) {
	for i := range l {
		j := m.below(i + 1)
		l[i], l[j] = l[j], l[i]
	}
}

func (m *maker) declare(kind, name string, size int) string {
	switch {
	case kind == "function":
		return m.function(name, size)
	case kind == "let" && m.below(3) == 0:
		return "let " + name + ";"
	}
	init := m.of("1", "{x: 1, y: {x: 2}}", "[1, 2, 3]", "\"xy\"", "v("+m.tag()+", 4)")
	switch m.below(6) {
	case 0:
		init = m.expr(size)
	case 1, 2:
		if size > 0 {
			init = m.function(m.of("", name), size/2)
		}
	}
	return kind + " " + name + " = " + init + ";"
}

// guarded is a statement behind which things go on, as a rule, though it throws.
func (m *maker) guarded(s string) string {
	if m.below(4) == 0 {
		return s
	}
	return "try { " + s + " } catch (x) { print(" + m.tag() + ", x); }"
}

// some are a few names of the pool, but not those.
func (m *maker) some(often int, but ...string) []string {
	var l []string
	for _, name := range pool {
		if m.below(often+2) == 0 && !slices.Contains(but, name) {
			l = append(l, name)
		}
	}
	return l
}

func (m *maker) function(name string, size int) string {
	inner := *m
	inner.fn, inner.star, inner.loops, inner.labels, inner.goOn = true, m.below(3) == 0, 0, nil, nil
	inner.blocks = append(slices.Clone(m.blocks), map[string]bool{name: false}, map[string]bool{})
	if name == "" {
		inner.blocks[len(m.blocks)] = map[string]bool{}
	}
	params := m.some(4)
	for _, p := range params {
		inner.blocks[len(m.blocks)+1][p] = true
	}
	star := ""
	if inner.star {
		star = "*"
	}
	inner.chance = m.chance
	body := "if (!tick()) { return 0; }\n" + inner.items(size, inner.some(6, params...))
	m.chance, m.tags = inner.chance, inner.tags
	return "function" + star + " " + name + "(" + strings.Join(params, ", ") + ") {\n" + body + "\n}"
}

func (m *maker) block(size int, names ...string) string {
	here := map[string]bool{}
	for _, name := range names {
		here[name] = true
	}
	m.blocks = append(m.blocks, here)
	defer func() { m.blocks = m.blocks[:len(m.blocks)-1] }()
	return "{ " + m.items(size-1, m.some(6, names...)) + " }"
}

func (m *maker) stmt(size int) string {
	if size <= 0 {
		return "t(" + m.tag() + ", " + m.expr(0) + ");"
	}
	switch m.below(18) {
	case 0:
		return m.block(size)
	case 1:
		return "if (" + m.expr(size/3) + ") " + m.stmt(size/2)
	case 2:
		return "if (" + m.expr(size/3) + ") " + m.block(size/3) + " else " + m.stmt(size/3)
	case 3, 4:
		return m.loop(size, nil)
	case 5:
		return m.label(size, nil)
	case 6, 7, 8:
		return m.jump(size)
	case 9:
		return m.of("", "if ("+m.expr(size/4)+") ") + "throw " + m.expr(size/2) + ";"
	case 10, 11:
		return m.try(size)
	case 12:
		if m.fn {
			return m.of("return;", "return "+m.expr(size/2)+";")
		}
	case 13:
		return m.guarded("{ " + m.stmt(size/2) + " " + m.stmt(size/2) + " }")
	}
	return "t(" + m.tag() + ", " + m.expr(size) + ");"
}

func (m *maker) loop(size int, labels []string) string {
	loops, goOn := m.loops, m.goOn
	defer func() { m.loops, m.goOn = loops, goOn }()
	over := m.expr(size / 4)
	m.loops, m.goOn = loops+1, slices.Concat(goOn, labels)
	switch m.below(4) {
	case 0:
		return "while (tick() && " + m.of(over, "true") + ") " + m.block(size/2)
	case 1:
		return "for (" + m.of("", m.expr(size/6)) + "; tick() && " + m.of(over, "true") + "; " + m.of("", m.expr(size/6)) + ") " + m.stmt(size/2)
	}
	return m.loopOf(size, over)
}

func (m *maker) loopOf(size int, over string) string {
	name := m.of(pool...)
	kind := m.of("let", "const")
	m.blocks = append(m.blocks, map[string]bool{name: kind == "let"})
	defer func() { m.blocks = m.blocks[:len(m.blocks)-1] }()
	return "for (" + kind + " " + name + " of " + m.of("[1, 2, 3]", "\"xyz\"", "[[1], 2]", over) + ") " + m.stmt(size/2)
}

func (m *maker) label(size int, labels []string) string {
	name := m.of("k", "l", "m", "a")
	if slices.Contains(m.labels, name) {
		return m.loop(size, labels)
	}
	around := m.labels
	defer func() { m.labels = around }()
	m.labels = append(slices.Clone(around), name)
	switch m.below(4) {
	case 0, 1:
		return name + ": " + m.loop(size, append(labels, name))
	case 2:
		return name + ": " + m.label(size-1, append(labels, name))
	}
	return name + ": " + m.block(size)
}

// jump hangs on something, as a rule.
func (m *maker) jump(size int) string {
	when := m.of("", "if ("+m.expr(size/3)+") ", "if (tick()) ")
	var l []string
	for _, name := range m.labels {
		l = append(l, "break "+name+";")
	}
	for _, name := range m.goOn {
		l = append(l, "continue "+name+";")
	}
	if m.loops > 0 {
		l = append(l, "break;", "continue;")
	}
	if m.fn {
		l = append(l, "return "+m.expr(size/3)+";")
	}
	if len(l) == 0 {
		return m.try(size)
	}
	return when + m.of(l...)
}

func (m *maker) try(size int) string {
	s := "try " + m.block(size/2)
	which := m.below(4)
	if which != 1 {
		name := m.of(pool...)
		s += " catch (" + name + ") " + m.block(size/3, name)
	}
	if which != 0 {
		s += " finally " + m.block(size/3)
	}
	return s
}

// given is what something can be given to.
func (m *maker) given(size int) string {
	if m.below(3) == 0 {
		return m.member(size)
	}
	name := m.of(pool...)
	for _, b := range slices.Backward(m.blocks) {
		if changes, ok := b[name]; ok {
			if changes {
				return name
			}
			break
		}
	}
	return m.member(size)
}

func (m *maker) member(size int) string {
	of := m.of(m.of(pool...), m.of(pool...), m.of(pool...), "("+m.expr(size/2)+")", "t("+m.tag()+", "+m.object(size/2)+")")
	return of + m.of(".x", ".y", ".next", "[\"x\"]", "[0]", "["+m.expr(size/3)+"]", "[v("+m.tag()+", \"y\")]")
}

func (m *maker) object(size int) string {
	var l []string
	for range m.below(4) {
		key := m.of("x", "y", "\"x\"", "1", "[v("+m.tag()+", \"x\")]", "["+m.expr(size/4)+"]")
		switch m.below(4) {
		case 0:
			l = append(l, "get "+key+"() { t("+m.tag()+", this); return "+m.outside(size/4)+"; }")
		case 1:
			l = append(l, "set "+key+"(q) { t("+m.tag()+", q); }")
		default:
			l = append(l, key+": "+m.expr(size/3))
		}
	}
	return "{" + strings.Join(l, ", ") + "}"
}

// outside is an expression of a function that is no generator.
func (m *maker) outside(size int) string {
	star := m.star
	m.star = false
	defer func() { m.star = star }()
	return m.expr(size)
}

func (m *maker) args(size int) string {
	var l []string
	for range m.below(4) {
		l = append(l, m.expr(size/3))
	}
	return "(" + strings.Join(l, ", ") + ")"
}

func (m *maker) leaf() string {
	if m.below(2) == 0 {
		return m.of(pool...)
	}
	return m.of("0", "1", "2.5", "\"x\"", "\"\"", "true", "false", "null", "undefined", "this", "7", "t("+m.tag()+", 3)", "t("+m.tag()+", 0)", "v("+m.tag()+", 4)", "[1, 2]", "{x: 1}")
}

func (m *maker) expr(size int) string {
	if size <= 0 {
		return m.leaf()
	}
	switch m.below(17) {
	case 0:
		return "[" + m.expr(size/2) + ", " + m.expr(size/2) + "]"
	case 1:
		return "(" + m.object(size) + ")"
	case 2:
		return "(" + m.function(m.of("", m.of(pool...)), size-1) + ")"
	case 3:
		return m.member(size)
	case 4:
		return "(" + m.of("a", "b", "c", "t", "("+m.expr(size/2)+")", "("+m.function("", size/2)+")") + ")" + m.args(size)
	case 5:
		return m.member(size/2) + m.args(size)
	case 6:
		return "new " + m.of("a", "b", "Error", "Object", "("+m.function("", size/2)+")") + m.args(size)
	case 7:
		return m.of("void ", "typeof ", "+", "-", "~", "!", "delete !") + "(" + m.expr(size-1) + ")"
	case 8:
		return "delete " + m.member(size)
	case 9:
		return "(" + m.of("++", "--") + m.given(size-1) + ")"
	case 10:
		return "(" + m.given(size-1) + m.of("++", "--") + ")"
	case 11, 12:
		return "(" + m.expr(size/2) + " " + m.of("+", "-", "*", "/", "%", "<<", ">>", ">>>", "&", "|", "^", "<", "<=", ">", ">=", "==", "!=", "===", "!==", "in", "instanceof") + " " + m.expr(size/2) + ")"
	case 13:
		return "(" + m.expr(size/2) + m.of(" && ", " || ") + m.expr(size/2) + ")"
	case 14:
		return "(" + m.expr(size/3) + " ? " + m.expr(size/3) + " : " + m.expr(size/3) + ")"
	case 15:
		if m.star {
			return "(yield " + m.of("", m.expr(size-1)) + ")"
		}
		return m.walkGenerator(size)
	}
	return "(" + m.given(size/2) + m.of(" = ", " = ", " += ", " -= ", " *= ", " /= ", " %= ", " <<= ", " >>= ", " >>>= ", " &= ", " |= ", " ^= ") + m.expr(size/2) + ")"
}

// walkGenerator lets a generator go on in all ways.
func (m *maker) walkGenerator(size int) string {
	s := "(function () { let g = " + m.of(m.of(pool...), "(function* () { "+m.generator(size)+" })", m.of(pool...)) + "(1, 2);\n"
	for range 1 + m.below(4) {
		s += "try { let r = g." + m.of("next", "next", "throw", "return") + "(" + m.of("", "5", "\"s\"") + "); print(" + m.tag() + ", r.value, r.done); } catch (e) { print(" + m.tag() + ", e); }\n"
	}
	return s + "return g; })()"
}

// generator is a body of one, in which ways out are met on the way through finally.
func (m *maker) generator(size int) string {
	inner := *m
	inner.fn, inner.star, inner.loops, inner.labels, inner.goOn = true, true, 0, nil, nil
	inner.blocks = append(slices.Clone(m.blocks), map[string]bool{})
	rest := inner.items(size/2, inner.some(6)) // it says what the names are
	first := inner.of("", "t("+inner.tag()+", yield);\n") + inner.try(size)
	m.chance, m.tags = inner.chance, inner.tags
	return first + "\n" + rest
}

// made calls f with programs of sizes below that one; those that have too many functions are left out.
func made(c chance, times, size int, f func(s string)) {
	for range times {
		m := maker{chance: c}
		s := m.program(m.below(size))
		n, _, _ := parse.Parse(s)
		if _, _, e := scope.Resolve(n); e != api.ErrScopeMany {
			f(s)
		}
		c = m.chance
	}
}

// sameEnd tells whether two runs of one program may be the same. One that was stopped has printed a beginning of what the other one has, or the other way round.
func sameEnd(log []string, end string, log2 []string, end2 string) bool {
	if end == "out of fuel" || end2 == "out of fuel" {
		n := min(len(log), len(log2))
		return slices.Equal(log[:n], log2[:n])
	}
	return slices.Equal(log, log2) && end == end2
}

// P9.1: what the code does is what the tree means.
func TestMeaningByChance(t *testing.T) {
	t.Parallel()
	done, lines := 0, 0
	made(9, 3000, 90, func(s string) {
		n, x := tree(t, s)
		p := codeOf(t, s, n, x)
		log, end := walkTree(n, plenty)
		log2, end2 := runCode(p, plenty)
		if !sameEnd(log, end, log2, end2) {
			t.Fatalf("%s\nthe tree prints %q, %s\nthe code prints %q, %s", s, log, end, log2, end2)
		}
		if end == "done" {
			done++
		}
		lines += len(log)
	})
	if done < 1000 || lines < 50000 { // else the programs say too little
		t.Error(done, lines)
	}
}
