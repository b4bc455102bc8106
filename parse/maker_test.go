package parse_test

import (
	"math"
	"strings"
	"testing"

	"brazier/api"
	"brazier/parse"
)

// maker writes programs by chance, row by row of the chapter's grammar, and tells what Parse is to answer: it writes from the left, so the first thing that it does amiss is the one that is told.
type maker struct {
	chance
	b       []byte
	depth   int
	star    bool
	amiss   bool // things may be done amiss
	line    bool // one of those that share a size gets all
	pending bool // what begins with the next token is one too deep
	code    api.Errno
	at      int
}

func (m *maker) tell(at int, code api.Errno) {
	if m.code == api.OK {
		m.at, m.code = at, code
	}
}

// put writes a token behind blanks, and tells its place.
func (m *maker) put(text string) int {
	m.gap(text[0])
	if m.pending {
		m.tell(len(m.b), api.ErrParseDeep)
		m.pending = false
	}
	m.b = append(m.b, text...)
	return len(m.b) - len(text)
}

// gap writes blanks; it may be without any only beside a byte that is a sign by itself.
func (m *maker) gap(next byte) {
	const alone = "(){}[];,~"
	if len(m.b) == 0 || strings.IndexByte(alone, next) >= 0 || strings.IndexByte(alone, m.b[len(m.b)-1]) >= 0 {
		if m.below(2) == 0 {
			return
		}
	}
	m.b = append(m.b, m.of(" ", " ", " ", "\n", "\t", "  \n", " /* ( */", " // )\n")...)
}

func (m *maker) in() {
	m.depth++
	if m.depth > api.MaxDepth {
		m.pending = true
	}
}

func (m *maker) out() { m.depth-- }

// shares parts what is left of a size among n; often one gets all.
func (m *maker) shares(size, n int) []int {
	l := make([]int, n)
	for left := size - 1; left > 0; {
		part := left
		if !m.line && m.below(2) == 0 {
			part = 1 + m.below(left)
		}
		l[m.below(n)] += part
		left -= part
	}
	return l
}

func (m *maker) name() string { return m.of("a", "b", "c1", "$", "get", "set", "of", "init", "_x") }

// program is one of about that size.
func (m *maker) program(size int) api.Node {
	n := api.Node{Kind: api.NodeProgram}
	n.Kids = m.items(size)
	n.At = firstToken(string(m.b))
	return n
}

// firstToken is the place of it, or all there is: a text of a maker never has a / ahead of it but a remark's.
func firstToken(s string) int {
	at := 0
	for {
		rest := strings.TrimLeft(s[at:], " \t\n")
		at = len(s) - len(rest)
		switch {
		case strings.HasPrefix(rest, "/*"):
			at += strings.Index(rest, "*/") + 2
		case strings.HasPrefix(rest, "//"):
			at += strings.Index(rest, "\n") + 1
		default:
			return at
		}
	}
}

func (m *maker) items(size int) []api.Node {
	var l []api.Node
	if size > 0 {
		for _, part := range m.shares(size, 1+m.below(3)) {
			l = append(l, m.item(part))
		}
	}
	return l
}

func (m *maker) item(size int) api.Node {
	switch m.below(8) {
	case 0:
		n := api.Node{Kind: api.NodeLet, At: m.put("let"), Name: m.putName()}
		kid := api.Node{}
		if size > 0 || m.below(2) == 0 {
			m.put("=")
			kid = m.assign(size - 1)
		}
		m.put(";")
		n.Kids = []api.Node{kid}
		return n
	case 1:
		n := api.Node{Kind: api.NodeConst, At: m.put("const"), Name: m.putName()}
		m.put("=")
		n.Kids = []api.Node{m.assign(size - 1)}
		m.put(";")
		return n
	case 2:
		return m.function(api.NodeDeclare, size)
	}
	return m.stmtAsItem(size)
}

func (m *maker) putName() string {
	s := m.name()
	m.put(s)
	return s
}

func (m *maker) function(kind, size int) api.Node {
	n := api.Node{Kind: kind, At: m.put("function")}
	if m.below(2) == 0 {
		m.put("*")
		n.Op = "*"
	}
	if kind == api.NodeDeclare || m.below(2) == 0 {
		n.Name = m.putName()
	}
	_, n.Kids = m.paramsAndBlock(n.Op == "*", size)
	return n
}

func (m *maker) paramsAndBlock(star bool, size int) (int, []api.Node) {
	var l []api.Node
	at := m.put("(")
	for i := range m.below(3) {
		if i > 0 {
			m.put(",")
		}
		s := m.name()
		l = append(l, api.Node{Kind: api.NodeName, At: m.put(s), Name: s})
	}
	m.put(")")
	around := m.star
	m.star = star
	l = append(l, m.block(size-1))
	m.star = around
	return at, l
}

func (m *maker) block(size int) api.Node {
	n := api.Node{Kind: api.NodeBlock, At: m.put("{")}
	n.Kids = m.items(size)
	m.put("}")
	return n
}

func (m *maker) stmt(size int) api.Node {
	if m.amiss && m.below(40) == 0 {
		m.pending = false
		m.tell(m.put(m.of("let", "const", "function")), api.ErrParseHere)
	}
	return m.stmtAsItem(size)
}

func (m *maker) stmtAsItem(size int) api.Node {
	m.in()
	defer m.out()
	switch m.below(16) {
	case 0, 1:
		return m.block(size)
	case 2:
		return api.Node{Kind: api.NodeEmpty, At: m.put(";")}
	case 3:
		n := api.Node{Kind: api.NodeReturn, At: m.put("return"), Kids: []api.Node{m.maybe(size)}}
		m.put(";")
		return n
	case 4, 5:
		return m.choice(size)
	case 6:
		return m.while(size)
	case 7:
		return m.loop(size)
	case 8:
		return m.loopOf(size)
	case 9:
		return m.jump()
	case 10:
		n := api.Node{Kind: api.NodeLabel, Name: m.name()}
		n.At = m.put(n.Name)
		m.put(":")
		n.Kids = []api.Node{m.stmt(size - 1)}
		return n
	case 11:
		n := api.Node{Kind: api.NodeThrow, At: m.put("throw"), Kids: []api.Node{m.assign(size - 1)}}
		m.put(";")
		return n
	case 12:
		return m.try(size)
	}
	return m.expr(size)
}

// maybe is an Assign, or nothing.
func (m *maker) maybe(size int) api.Node {
	if size > 0 || m.below(2) == 0 {
		return m.assign(size - 1)
	}
	return api.Node{}
}

func (m *maker) inParens(size int) api.Node {
	m.put("(")
	n := m.assign(size)
	m.put(")")
	return n
}

func (m *maker) choice(size int) api.Node {
	l := m.shares(size, 3)
	n := api.Node{Kind: api.NodeIf, At: m.put("if")}
	n.Kids = []api.Node{m.inParens(l[0]), m.stmt(l[1]), {}}
	// An else behind an if that lacks one would be that one's.
	if (l[2] > 0 || m.below(2) == 0) && !endsShort(n.Kids[1]) {
		m.put("else")
		n.Kids[2] = m.stmt(l[2])
	}
	return n
}

func endsShort(n api.Node) bool {
	switch n.Kind {
	case api.NodeIf:
		return n.Kids[2].Kind == 0 || endsShort(n.Kids[2])
	case api.NodeWhile, api.NodeFor, api.NodeForOf, api.NodeLabel:
		return endsShort(n.Kids[len(n.Kids)-1])
	}
	return false
}

func (m *maker) while(size int) api.Node {
	l := m.shares(size, 2)
	return api.Node{Kind: api.NodeWhile, At: m.put("while"), Kids: []api.Node{m.inParens(l[0]), m.stmt(l[1])}}
}

func (m *maker) loop(size int) api.Node {
	l := m.shares(size, 4)
	n := api.Node{Kind: api.NodeFor, At: m.put("for")}
	m.put("(")
	for i, sign := range []string{";", ";", ")"} {
		n.Kids = append(n.Kids, m.maybe(l[i]))
		m.put(sign)
	}
	n.Kids = append(n.Kids, m.stmt(l[3]))
	return n
}

func (m *maker) loopOf(size int) api.Node {
	l := m.shares(size, 2)
	n := api.Node{Kind: api.NodeForOf, At: m.put("for"), Op: m.of("let", "const")}
	m.put("(")
	m.put(n.Op)
	n.Name = m.putName()
	m.put("of")
	over := m.assign(l[0])
	m.put(")")
	n.Kids = []api.Node{over, m.stmt(l[1])}
	return n
}

func (m *maker) jump() api.Node {
	n := api.Node{Kind: api.NodeBreak}
	if m.below(2) == 0 {
		n.Kind = api.NodeContinue
	}
	n.At = m.put(map[int]string{api.NodeBreak: "break", api.NodeContinue: "continue"}[n.Kind])
	if m.below(2) == 0 {
		n.Name = m.putName()
	}
	m.put(";")
	return n
}

func (m *maker) try(size int) api.Node {
	l := m.shares(size, 3)
	n := api.Node{Kind: api.NodeTry, At: m.put("try"), Kids: []api.Node{m.block(l[0]), {}, {}}}
	which := 1 + m.below(3)
	if which&1 > 0 {
		m.put("catch")
		m.put("(")
		n.Name = m.putName()
		m.put(")")
		n.Kids[1] = m.block(l[1])
	}
	if which&2 > 0 {
		m.put("finally")
		n.Kids[2] = m.block(l[2])
	}
	return n
}

// expr is an Assign and a semicolon, which begins with neither { nor function.
func (m *maker) expr(size int) api.Node {
	ahead := *m
	for {
		kid := m.assign(size)
		at := len(ahead.b) + firstToken(string(m.b[len(ahead.b):]))
		if s := string(m.b[at:]); s[0] != '{' && !strings.HasPrefix(s, "function") {
			m.put(";")
			return api.Node{Kind: api.NodeExpr, At: at, Kids: []api.Node{kid}}
		}
		ahead.chance = m.chance
		*m = ahead
		size = min(size, 3)
	}
}

func (m *maker) assign(size int) api.Node {
	m.in()
	defer m.out()
	switch {
	case m.star && m.below(6) == 0:
		n := api.Node{Kind: api.NodeYield, At: m.put("yield"), Kids: []api.Node{m.maybe(size)}}
		return n
	case size > 0 && m.below(4) == 0:
		l := m.shares(size, 2)
		var left api.Node
		if m.amiss && m.below(4) == 0 {
			left = m.binary(m.below(11), l[0])
		} else {
			m.in()
			left = m.left(l[0])
			m.out()
		}
		m.mustBeLeft(left)
		op := m.of(strings.Fields(assignSigns)...)
		m.put(op)
		return api.Node{Kind: api.NodeAssign, At: left.At, Op: op, Kids: []api.Node{left, m.assign(l[1])}}
	}
	return m.cond(size)
}

func (m *maker) mustBeLeft(n api.Node) {
	if n.Kind != api.NodeName && n.Kind != api.NodeMember {
		m.tell(n.At, api.ErrParseLeft)
	}
}

// left is a Member to which something can be given.
func (m *maker) left(size int) api.Node {
	switch m.below(4) {
	case 0:
		m.put("(")
		m.in()
		m.in()
		n := m.left(size - 1)
		m.out()
		m.out()
		m.put(")")
		return n
	case 1, 2:
		l := m.shares(size, 2)
		n, open := m.member(l[0])
		if !open {
			return m.part(n, l[1])
		}
		return n
	}
	s := m.name()
	return api.Node{Kind: api.NodeName, At: m.put(s), Name: s}
}

func (m *maker) cond(size int) api.Node {
	if size <= 0 || m.below(8) > 0 {
		return m.binary(0, size)
	}
	l := m.shares(size, 3)
	a := m.binary(0, l[0])
	m.put("?")
	b := m.assign(l[1])
	m.put(":")
	return api.Node{Kind: api.NodeCond, At: a.At, Kids: []api.Node{a, b, m.assign(l[2])}}
}

func (m *maker) binary(row, size int) api.Node {
	if row == len(rows) {
		return m.unary(size)
	}
	if size <= 0 || m.below(12) > 0 {
		return m.binary(row+1, size)
	}
	l := m.shares(size, 2)
	a := m.binary(row, l[0])
	op := m.of(rows[row]...)
	m.put(op)
	return api.Node{Kind: kindOfSign(op), At: a.At, Op: op, Kids: []api.Node{a, m.binary(row+1, l[1])}}
}

func (m *maker) unary(size int) api.Node {
	m.in()
	defer m.out()
	if size > 0 && m.below(6) == 0 {
		return m.signed(size)
	}
	if size > 0 && m.below(8) == 0 {
		var n api.Node
		if m.amiss && m.below(4) == 0 {
			n, _ = m.member(size - 1)
		} else {
			n = m.left(size - 1)
		}
		m.mustBeLeft(n)
		op := m.of("++", "--")
		m.put(op)
		return api.Node{Kind: api.NodeUpdate, At: n.At, Op: op, Name: "post", Kids: []api.Node{n}}
	}
	n, _ := m.member(size)
	return n
}

func (m *maker) signed(size int) api.Node {
	n := api.Node{Kind: api.NodeUnary, Op: m.of("delete", m.of(strings.Fields(unarySigns)...))}
	n.At = m.put(n.Op)
	update := n.Op == "++" || n.Op == "--"
	if n.Op == "delete" && m.amiss && m.below(2) == 0 {
		size = 0
	}
	if update && (!m.amiss || m.below(2) == 0) {
		m.in()
		n.Kids = []api.Node{m.left(size - 1)}
		m.out()
	} else {
		n.Kids = []api.Node{m.unary(size - 1)}
	}
	if update {
		n.Kind, n.Name = api.NodeUpdate, "pre"
		m.mustBeLeft(n.Kids[0])
	}
	if n.Op == "delete" && n.Kids[0].Kind == api.NodeName {
		m.tell(n.At, api.ErrParseDelete)
	}
	return n
}

// member tells also whether it is a New that what comes behind would be a part of.
func (m *maker) member(size int) (api.Node, bool) {
	l := m.shares(size, 4)
	n, open := m.base(l[0])
	for i := 1; i < 4 && !open; i++ {
		switch kind := m.below(8); {
		case kind < 2:
			n = m.part(n, l[i])
		case kind == 2 || l[i] > 0:
			n = api.Node{Kind: api.NodeCall, At: n.At, Kids: append([]api.Node{n}, m.args(l[i])...)}
		}
	}
	return n, open
}

func (m *maker) base(size int) (api.Node, bool) {
	if m.below(8) == 0 {
		return m.new(size)
	}
	return m.primary(size), false
}

func (m *maker) new(size int) (api.Node, bool) {
	l := m.shares(size, 3)
	at := m.put("new")
	m.in()
	defer m.out()
	n, open := m.base(l[0])
	if !open && (l[1] > 0 || m.below(3) == 0) {
		n = m.part(n, l[1])
	}
	made := api.Node{Kind: api.NodeNew, At: at, Kids: []api.Node{n}}
	if open || l[2] <= 0 && m.below(2) == 0 {
		return made, true
	}
	made.Kids = append(made.Kids, m.args(l[2])...)
	return made, false
}

func (m *maker) part(n api.Node, size int) api.Node {
	if size <= 0 && m.below(2) == 0 {
		m.put(".")
		s := m.of(m.name(), m.of(keptWords...))
		key := api.Node{Kind: api.NodeString, At: m.put(s), Name: s}
		return api.Node{Kind: api.NodeMember, At: n.At, Op: ".", Kids: []api.Node{n, key}}
	}
	m.put("[")
	key := m.assign(size)
	m.put("]")
	return api.Node{Kind: api.NodeMember, At: n.At, Op: "[", Kids: []api.Node{n, key}}
}

func (m *maker) args(size int) []api.Node {
	m.put("(")
	return m.rest(")", size, m.assign)
}

// rest is what stands between commas, up to the sign.
func (m *maker) rest(sign string, size int, one func(int) api.Node) []api.Node {
	var l []api.Node
	if size > 0 || m.below(2) == 0 {
		for i, part := range m.shares(size, 1+m.below(3)) {
			if i > 0 {
				m.put(",")
			}
			l = append(l, one(part))
		}
	}
	m.put(sign)
	return l
}

func (m *maker) primary(size int) api.Node {
	if size <= 0 {
		return m.leaf()
	}
	switch m.below(4) {
	case 0:
		return m.inParens(size - 1)
	case 1:
		return api.Node{Kind: api.NodeArray, At: m.put("["), Kids: m.rest("]", size, m.assign)}
	case 2:
		return api.Node{Kind: api.NodeObject, At: m.put("{"), Kids: m.rest("}", size, m.prop)}
	}
	return m.function(api.NodeFunction, size)
}

func (m *maker) leaf() api.Node {
	switch m.below(5) {
	case 0:
		s := m.of("0", "1", "0x1F", "2.5")
		return api.Node{Kind: api.NodeNumber, At: m.put(s), Num: math.Float64bits(map[string]float64{"1": 1, "0x1F": 31, "2.5": 2.5}[s])}
	case 1:
		s := m.of("", "a", "{", "(", "let", "+")
		return api.Node{Kind: api.NodeString, At: m.put("'" + s + "'"), Name: s}
	case 2:
		words := map[string]int{"true": api.NodeTrue, "false": api.NodeFalse, "null": api.NodeNull, "undefined": api.NodeUndefined, "this": api.NodeThis}
		s := m.of("true", "false", "null", "undefined", "this")
		return api.Node{Kind: words[s], At: m.put(s)}
	}
	s := m.name()
	return api.Node{Kind: api.NodeName, At: m.put(s), Name: s}
}

func (m *maker) prop(size int) api.Node {
	l := m.shares(size, 2)
	if m.below(3) > 0 {
		at, key := m.key(l[0])
		m.put(":")
		return api.Node{Kind: api.NodeProp, At: at, Op: "init", Kids: []api.Node{key, m.assign(l[1])}}
	}
	n := api.Node{Kind: api.NodeProp, Op: m.of("get", "set")}
	n.At = m.put(n.Op)
	_, key := m.key(l[0])
	at, kids := m.paramsAndBlock(false, l[1])
	n.Kids = []api.Node{key, {Kind: api.NodeFunction, At: at, Kids: kids}}
	return n
}

// key tells also where it begins.
func (m *maker) key(size int) (int, api.Node) {
	if size > 0 || m.below(6) == 0 {
		at := m.put("[")
		n := m.assign(size)
		m.put("]")
		return at, n
	}
	n := api.Node{Kind: api.NodeString, Name: m.of(m.name(), m.of(keptWords...))}
	switch m.below(4) {
	case 0:
		n.At = m.put(`"` + n.Name + `"`)
	case 1:
		n = api.Node{Kind: api.NodeNumber, At: m.put("7"), Num: math.Float64bits(7)}
	default:
		n.At = m.put(n.Name)
	}
	return n.At, n
}

// made calls f with each program that a maker writes of those sizes, and what Parse is to answer.
func made(c chance, times, size int, amiss, line bool, f func(m *maker, n api.Node)) {
	m := maker{chance: c}
	for range times {
		m = maker{chance: m.chance, amiss: amiss, line: line}
		f(&m, m.program(m.below(size)))
	}
}

// P6.1: programs made by chance have the trees that they were written from, or the error of what is done amiss first.
func TestMade(t *testing.T) {
	seen := map[api.Errno]int{}
	check := func(m *maker, n api.Node) {
		s := string(m.b)
		got, at, e := parse.Parse(s)
		want := told(n)
		if m.code != api.OK {
			want = "-"
		}
		if e != m.code || at != m.at || told(got) != want {
			t.Fatalf("%s\n%d at %d, want %d at %d\n got %s\nwant %s", s, e, at, m.code, m.at, told(got), want)
		}
		seen[e]++
	}
	for i, amiss := range []bool{false, true} {
		made(chance(i), 6000, 8, amiss, false, check)
		made(chance(10+i), 2000, 60, amiss, false, check)
		made(chance(20+i), 2000, 120, amiss, true, check)
	}
	for _, e := range []api.Errno{api.OK, api.ErrParseHere, api.ErrParseLeft, api.ErrParseDelete, api.ErrParseDeep} {
		if seen[e] < 50 {
			t.Errorf("error %d: %d times only", e, seen[e])
		}
	}
}
