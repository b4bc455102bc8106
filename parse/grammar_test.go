package parse_test

import (
	"slices"
	"strings"
	"testing"

	"brazier/api"
	"brazier/lex"
	"brazier/parse"
)

// grammar is the chapter's, a line for each of what a row may be. A capital is a row's name, or one of NAME, NUMBER, STRING, END, KEY (a name or a word), BETWEEN, GIVES, AHEAD (signs). Within Star a yield may stand. First is an Assign that begins with neither { nor function.
const grammar = `
Start: Items END
Items:
Items: Items Item
Item: Declare
Item: Stmt
Declare: let NAME ;
Declare: let NAME = Assign ;
Declare: const NAME = Assign ;
Declare: function NAME Params Plain
Declare: function * NAME Params Star
Params: ( )
Params: ( Names )
Names: NAME
Names: Names , NAME
Block: { Items }
Stmt: Block
Stmt: ;
Stmt: return Maybe ;
Stmt: if ( Assign ) Stmt
Stmt: if ( Assign ) Stmt else Stmt
Stmt: while ( Assign ) Stmt
Stmt: for ( Maybe ; Maybe ; Maybe ) Stmt
Stmt: for ( let NAME of Assign ) Stmt
Stmt: for ( const NAME of Assign ) Stmt
Stmt: break ;
Stmt: break NAME ;
Stmt: continue ;
Stmt: continue NAME ;
Stmt: NAME : Stmt
Stmt: throw Assign ;
Stmt: try Block catch ( NAME ) Block
Stmt: try Block finally Block
Stmt: try Block catch ( NAME ) Block finally Block
Stmt: First ;
Maybe:
Maybe: Assign
Assign: yield
Assign: yield Assign
Assign: Cond
Assign: Cond GIVES Assign
Cond: Binary
Cond: Binary ? Assign : Assign
Binary: Unary
Binary: Binary BETWEEN Unary
Unary: AHEAD Unary
Unary: Member
Unary: Member ++
Unary: Member --
Member: New
Member: Primary
Member: Member . KEY
Member: Member [ Assign ]
Member: Member Args
New: new Callee
New: new Callee Args
Callee: New
Callee: Primary
Callee: Callee . KEY
Callee: Callee [ Assign ]
Args: ( )
Args: ( List )
List: Assign
List: List , Assign
Primary: NAME
Primary: NUMBER
Primary: STRING
Primary: true
Primary: false
Primary: null
Primary: undefined
Primary: this
Primary: ( Assign )
Primary: [ ]
Primary: [ List ]
Primary: { }
Primary: { Props }
Primary: function Params Plain
Primary: function NAME Params Plain
Primary: function * Params Star
Primary: function * NAME Params Star
Props: Prop
Props: Props , Prop
Prop: Key : Assign
Prop: get Key Params Plain
Prop: set Key Params Plain
Key: KEY
Key: STRING
Key: NUMBER
Key: [ Assign ]
`

type rule struct {
	is    string
	parts []string
}

// grammarRules are the grammar's, each row twice: with a * where a yield may stand; and some rows again with a !, where neither { nor function may be the first token.
func grammarRules() map[string][]rule {
	rules := map[string][]rule{}
	add := func(is string, parts []string) { rules[is] = append(rules[is], rule{is, parts}) }
	for _, line := range strings.Split(strings.TrimSpace(grammar), "\n") {
		is, rest, _ := strings.Cut(line, ":")
		parts := strings.Fields(rest)
		for _, star := range []string{"", "*"} {
			if star == "" && len(parts) > 0 && parts[0] == "yield" {
				continue
			}
			add(is+star, named(parts, star))
			if strings.Contains(" Assign Cond Binary Unary Member Primary ", " "+is+" ") && parts[0] != "{" && parts[0] != "function" {
				add(is+star+"!", first(named(parts, star)))
			}
		}
	}
	return rules
}

// named are the names of rows with a * if they have it.
func named(parts []string, star string) []string {
	var l []string
	for _, p := range parts {
		switch {
		case p == "Plain":
			p = "Block"
		case p == "Star":
			p = "Block*"
		case p == "First":
			p = "Assign" + star + "!"
		case isRow(p):
			p += star
		}
		l = append(l, p)
	}
	return l
}

func first(parts []string) []string {
	l := slices.Clone(parts)
	if isRow(l[0]) && !strings.HasPrefix(l[0], "New") {
		l[0] += "!"
	}
	return l
}

func isRow(p string) bool {
	return len(p) > 1 && p[0] >= 'A' && p[0] <= 'Z' && p[1] >= 'a' && p[1] <= 'z'
}

// stands tells whether the token is one that a part of a rule means.
func stands(part string, t api.Token) bool {
	fixed := t.Kind == api.TokenWord || t.Kind == api.TokenSign
	switch part {
	case "NAME":
		return t.Kind == api.TokenName
	case "NUMBER":
		return t.Kind == api.TokenNumber
	case "STRING":
		return t.Kind == api.TokenString
	case "END":
		return t.Kind == api.TokenEnd
	case "KEY":
		return t.Kind == api.TokenName || t.Kind == api.TokenWord
	case "get", "set", "of":
		return t.Kind == api.TokenName && t.Text == part
	case "BETWEEN":
		return fixed && slices.ContainsFunc(rows, func(row []string) bool { return slices.Contains(row, t.Text) })
	case "GIVES":
		return fixed && slices.Contains(strings.Fields(assignSigns), t.Text)
	case "AHEAD":
		return fixed && slices.Contains(strings.Fields(unarySigns), t.Text)
	}
	return fixed && t.Text == part
}

// state is a rule, how much of it is read, and where it began.
type state struct {
	r    *rule
	read int
	from int
}

func (s state) next() string {
	if s.read == len(s.r.parts) {
		return ""
	}
	return s.r.parts[s.read]
}

// chart holds, for each place among the tokens, all rules that may be in the midst of being read there.
type chart struct {
	rules map[string][]rule
	sets  [][]state
}

func newChart(rules map[string][]rule) *chart {
	c := &chart{rules: rules}
	c.sets = [][]state{c.closed(0, []state{{&rules["Start"][0], 0, 0}})}
	return c
}

// closed adds to the states of a place all that follow from them.
func (c *chart) closed(at int, l []state) []state {
	seen := map[state]int{}
	add := func(s state) {
		if seen[s]++; seen[s] == 1 {
			l = append(l, s)
		}
	}
	first := l
	l = nil
	for _, s := range first {
		add(s)
	}
	for i := 0; i < len(l); i++ {
		s := l[i]
		next := s.next()
		for k := range c.rules[next] {
			add(state{&c.rules[next][k], 0, at})
			if len(c.rules[next][k].parts) == 0 {
				add(state{s.r, s.read + 1, s.from})
			}
		}
		if next == "" && s.from < at {
			for _, around := range c.sets[s.from] {
				if around.next() == s.r.is {
					add(state{around.r, around.read + 1, around.from})
				}
			}
		}
	}
	return l
}

// put reads a token; or tells that it can't stand there.
func (c *chart) put(t api.Token) bool {
	var l []state
	for _, s := range c.sets[len(c.sets)-1] {
		if next := s.next(); next != "" && !isRow(strings.TrimRight(next, "*!")) && stands(next, t) {
			l = append(l, state{s.r, s.read + 1, s.from})
		}
	}
	if len(l) == 0 {
		return false
	}
	c.sets = append(c.sets, nil)
	c.sets[len(c.sets)-1] = c.closed(len(c.sets)-1, l)
	return true
}

func (c *chart) drop(to int) { c.sets = c.sets[:to] }

// mustBeStmt tells whether a Stmt is to begin.
func (c *chart) mustBeStmt() bool {
	return slices.ContainsFunc(c.sets[len(c.sets)-1], func(s state) bool { return strings.TrimRight(s.next(), "*") == "Stmt" })
}

// fault reads tokens, and tells the first that can't stand there, and the error.
func (c *chart) fault(tokens []api.Token) (int, api.Errno) {
	for _, t := range tokens {
		if c.put(t) {
			continue
		}
		if t.Kind == api.TokenWord && (t.Text == "let" || t.Text == "const" || t.Text == "function") && c.mustBeStmt() {
			return t.At, api.ErrParseHere
		}
		return t.At, api.ErrParseForm
	}
	return 0, api.OK
}

// allTokens are one of each that there is, as they are written.
func allTokens() []string {
	return append(strings.Fields(signs+" "+kept), "a", "get", "set", "of", "1", "'a'")
}

// written are tokens as a text.
func written(tokens []api.Token) string {
	var b strings.Builder
	for _, t := range tokens {
		switch t.Kind {
		case api.TokenNumber:
			b.WriteString("1 ")
		case api.TokenString:
			b.WriteString("'a' ")
		case api.TokenEnd:
		default:
			b.WriteString(t.Text + " ")
		}
	}
	return b.String()
}

// agrees: Parse tells the grammar's fault of the text, unless one that the grammar does not know of is met ahead of it.
func agrees(t *testing.T, c *chart, ahead int, s string, seen map[api.Errno]int) {
	tokens, _, e := lex.Scan(s)
	if e != api.OK {
		return
	}
	wantAt, want := c.fault(tokens[ahead:])
	_, at, e := parse.Parse(s)
	seen[e]++
	if e == api.ErrParseLeft || e == api.ErrParseDelete {
		if want != api.OK && at > wantAt {
			t.Fatalf("%s: error %d at %d, but %d at %d", s, e, at, want, wantAt)
		}
		return
	}
	if e != want || at != wantAt {
		t.Fatalf("%s: error %d at %d, want %d at %d", s, e, at, want, wantAt)
	}
}

// P6.1: behind each of the first tokens of programs, each token that there is: it can stand there, or it is told.
func TestNextToken(t *testing.T) {
	seen := map[api.Errno]int{}
	rules := grammarRules()
	made(70, 300, 8, false, false, func(m *maker, _ api.Node) {
		tokens, _, _ := lex.Scan(string(m.b))
		if m.code != api.OK || len(tokens) > 50 {
			return
		}
		c := newChart(rules)
		for i, token := range tokens {
			if ahead := written(tokens[:i]); m.below(4) == 0 {
				for _, next := range allTokens() {
					agrees(t, c, i, ahead+next, seen)
					c.drop(i + 1)
				}
				agrees(t, c, i, ahead, seen)
				c.drop(i + 1)
			}
			if !c.put(token) {
				t.Fatalf("%s: not %+v", m.b, token)
			}
		}
	})
	if seen[api.ErrParseForm] < 10000 || seen[api.ErrParseHere] < 30 {
		t.Error(seen)
	}
}

// P6.1: programs of which tokens are left out, put in, or put in each other's place.
func TestSpoilt(t *testing.T) {
	seen := map[api.Errno]int{}
	rules := grammarRules()
	all := allTokens()
	made(71, 3000, 10, false, false, func(m *maker, _ api.Node) {
		tokens, _, _ := lex.Scan(string(m.b))
		if m.code != api.OK || len(tokens) > 60 {
			return
		}
		texts := strings.Fields(written(tokens))
		for range 1 + m.below(2) {
			i := m.below(len(texts) + 1)
			j := min(len(texts), i+m.below(2))
			texts = slices.Concat(texts[:i], []string{"", m.of(all...)}[m.below(2):][:1], texts[j:])
		}
		agrees(t, newChart(rules), 0, strings.Join(texts, " "), seen)
	})
	if seen[api.ErrParseForm] < 1000 || seen[api.OK] < 300 {
		t.Error(seen)
	}
}
