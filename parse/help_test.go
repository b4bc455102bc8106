package parse_test

import (
	"math"
	"strconv"
	"strings"
	"testing"

	"brazier/api"
	"brazier/parse"
)

// signs and kept are lex's lists, rowsOfSigns and assignSigns the chapter's.
const (
	signs       = ">>>= === !== <<= >>= >>> == != <= >= ++ -- << >> && || += -= *= /= %= &= |= ^= ( ) { } [ ] ; , . : ? = < > + - * / % & | ^ ~ !"
	kept        = "break catch const continue delete else false finally for function if in instanceof let new null return this throw true try typeof undefined void while yield"
	rowsOfSigns = "||; &&; |; ^; &; == != === !==; < <= > >= in instanceof; << >> >>>; + -; * / %"
	assignSigns = "= += -= *= /= %= <<= >>= >>>= &= |= ^="
	unarySigns  = "delete void typeof + - ~ ! ++ --"
)

var (
	keptWords = strings.Fields(kept)
	rows      = rowList()
)

// kindNames are those of api's constants.
var kindNames = map[int]string{
	api.NodeNumber: "Number", api.NodeString: "String", api.NodeName: "Name", api.NodeTrue: "True", api.NodeFalse: "False",
	api.NodeNull: "Null", api.NodeUndefined: "Undefined", api.NodeThis: "This", api.NodeArray: "Array", api.NodeObject: "Object",
	api.NodeProp: "Prop", api.NodeFunction: "Function", api.NodeMember: "Member", api.NodeCall: "Call", api.NodeNew: "New",
	api.NodeUnary: "Unary", api.NodeUpdate: "Update", api.NodeBinary: "Binary", api.NodeLogic: "Logic", api.NodeCond: "Cond",
	api.NodeAssign: "Assign", api.NodeYield: "Yield", api.NodeLet: "Let", api.NodeConst: "Const", api.NodeDeclare: "Declare",
	api.NodeReturn: "Return", api.NodeIf: "If", api.NodeWhile: "While", api.NodeFor: "For", api.NodeForOf: "ForOf",
	api.NodeBreak: "Break", api.NodeContinue: "Continue", api.NodeLabel: "Label", api.NodeThrow: "Throw", api.NodeTry: "Try",
	api.NodeBlock: "Block", api.NodeEmpty: "Empty", api.NodeExpr: "Expr", api.NodeProgram: "Program",
}

// rowList are the signs between two, row by row.
func rowList() [][]string {
	var l [][]string
	for _, row := range strings.Split(rowsOfSigns, ";") {
		l = append(l, strings.Fields(row))
	}
	return l
}

// told writes all of a tree: Kind@At 'Name' Op #Num (Kids); a field that is zero is left out (but a number's Num), and a node of nothing is a -.
func told(n api.Node) string {
	var b strings.Builder
	tell(&b, n)
	return b.String()
}

func tell(b *strings.Builder, n api.Node) {
	if n.Kind == 0 && n.At == 0 && n.Name == "" && n.Op == "" && n.Num == 0 && len(n.Kids) == 0 {
		b.WriteString("-")
		return
	}
	b.WriteString(kindNames[n.Kind] + "@" + strconv.Itoa(n.At))
	if n.Name != "" {
		b.WriteString(" '" + n.Name + "'")
	}
	if n.Op != "" {
		b.WriteString(" " + n.Op)
	}
	if n.Num != 0 || n.Kind == api.NodeNumber {
		b.WriteString(" #" + strconv.FormatFloat(math.Float64frombits(n.Num), 'g', -1, 64))
	}
	for i, k := range n.Kids {
		b.WriteString([]string{", ", " ("}[max(0, 1-i)])
		tell(b, k)
	}
	if len(n.Kids) > 0 {
		b.WriteString(")")
	}
}

func short(s string) string {
	if len(s) > 400 {
		return strconv.Quote(s[:200]) + " .. " + strconv.Quote(s[len(s)-200:])
	}
	return strconv.Quote(s)
}

// reads: the program's tree, as told writes it, is want.
func reads(t *testing.T, s, want string) {
	t.Helper()
	if n, at, e := parse.Parse(s); e != api.OK || at != 0 || told(n) != want {
		t.Errorf("%s: %d at %d\n got %s\nwant %s", short(s), e, at, told(n), want)
	}
}

// readsOne: the program is one item, of that tree.
func readsOne(t *testing.T, s, want string) {
	t.Helper()
	reads(t, s, "Program@0 ("+want+")")
}

func fine(t *testing.T, s string) api.Node {
	t.Helper()
	n, at, e := parse.Parse(s)
	if e != api.OK || at != 0 || n.Kind != api.NodeProgram {
		t.Errorf("%s: kind %d, error %d at %d", short(s), n.Kind, e, at)
	}
	return n
}

func wrong(t *testing.T, s string, at int, e api.Errno) {
	t.Helper()
	if n, gotAt, got := parse.Parse(s); told(n) != "-" || gotAt != at || got != e {
		t.Errorf("%s: %.100s, %d at %d, want error %d at %d", short(s), told(n), got, gotAt, e, at)
	}
}

// wrongHere: s has a | ahead of the token at which the error is told.
func wrongHere(t *testing.T, s string, e api.Errno) {
	t.Helper()
	at := strings.Index(s, "|")
	wrong(t, s[:at]+s[at+1:], at, e)
}

// chance tells the same numbers in each run.
type chance uint64

func (c *chance) next() uint64 {
	*c += 0x9e3779b97f4a7c15
	z := uint64(*c)
	z = (z ^ z>>30) * 0xbf58476d1ce4e5b9
	z = (z ^ z>>27) * 0x94d049bb133111eb
	return z ^ z>>31
}

func (c *chance) below(n int) int { return int(c.next() % uint64(n)) }

func (c *chance) of(l ...string) string { return l[c.below(len(l))] }
