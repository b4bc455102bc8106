package emit_test

import (
	"fmt"
	"strings"
	"testing"

	"brazier/api"
	"brazier/emit"
)

// many: the text so often, parted by the other one.
func many(text string, times int, between string) string {
	return strings.TrimSuffix(strings.Repeat(text+between, times), between)
}

// lets declares so many variables.
func lets(times int) string {
	var b strings.Builder
	for i := range times {
		fmt.Fprintf(&b, "let v%d;", i)
	}
	return b.String()
}

// tooMuch: there is too much of it.
func tooMuch(t *testing.T, what string, n api.Node, x api.Scoped) {
	t.Helper()
	if p, e := emit.Program(n, x); e != api.ErrEmitMany || p.Funcs != nil {
		t.Errorf("%.300s: error %d, %d functions, want ErrEmitMany", what, e, len(p.Funcs))
	}
}

// P9.1: a function that needs just MaxRegs registers, and one that needs one more.
func TestMaxRegs(t *testing.T) {
	t.Parallel()
	for _, c := range []struct {
		format string
		most   int // how many arguments there is room for
	}{
		{"print(%s);", 398},
		{"Object.create(%s);", 398},
		{`Object["create" + ""](%s);`, 398},
		{"new Error(%s);", 398},
		{"let a = print(%s);", 398},
		{"let a; print(%s);", 397},
		{"{ let a; } print(%s);", 398},
		{"let a; let b = print(%s);", 397},
		{"{ let a; let b; print(%s); }", 396},
		{"[print(%s)];", 397},
		{"1 + print(%s);", 397},
		{"print(%s) + 1;", 398},
		{"print(2, print(%s));", 395},
		{"for (const x of []) { print(%s); }", 395},
		{"for (const x of print(%s)) { }", 397},
		{"try { print(%s); } finally { }", 398},
		{"try { } finally { print(%s); }", 396},
		{"try { } catch (e) { print(%s); }", 397},
		{"try { try { } finally { print(%s); } } finally { }", 396},
		{"function f() { print(%s); }", 398},
		{"function f(a, b, c) { return print(%s); }", 395},
		{"(function f() { print(%s); });", 398},
		{"(function f() { print(%s); return function () { return f; }; });", 397},
		{"function* f() { yield print(%s); }", 398},
		{"while (print(%s)) { }", 398},
		{"if (print(%s)) { }", 398},
		{"if (1) { print(%s); } else { }", 398},
		{"if (1) { } else { print(%s); }", 398},
		{"while (1) { print(%s); }", 398},
		{"for (1; 2; print(%s)) { }", 398},
		{"for (1; print(%s); ) { }", 398},
		{"let a; new Error(%s);", 397},
		{"function f(a) { print(%s); return function () { return a; }; }", 397},
		{"let a; a = print(%s);", 397},
		{"print.x = print(%s);", 396},
		{"print[1] = print(%s);", 395},
		{"print.x += print(%s);", 396},
		{"throw print(%s);", 398},
		{lets(200) + "print(%s);", 198},
	} {
		full := fmt.Sprintf(c.format, many("1", c.most, ","))
		p := emitted(t, full)
		most := 0
		for _, f := range p.Funcs {
			most = max(most, f.Regs)
		}
		if most != api.MaxRegs {
			t.Errorf("%.200s: %d registers", full, most)
		}
		more := fmt.Sprintf(c.format, many("1", c.most+1, ","))
		n, x := tree(t, more)
		tooMuch(t, more, n, x)
	}
}

// P9.1: loops within each other, of which each needs three registers, and the innermost one more for a while.
func TestMaxRegsOfLoops(t *testing.T) {
	loops := func(times int) api.Node {
		n := node(api.NodeEmpty)
		for range times {
			n = api.Node{Kind: api.NodeForOf, Op: "let", Name: "a", Kids: []api.Node{node(api.NodeArray), n}}
		}
		return placed(program(n))
	}
	n := loops(133)
	if p := codeOf(t, "133 loops", n, resolved(t, "133 loops", n)); p.Funcs[0].Regs != api.MaxRegs {
		t.Error(p.Funcs[0].Regs)
	}
	n = loops(134)
	tooMuch(t, "134 loops", n, resolved(t, "134 loops", n))
}

// P9.1: registers that nobody needs any more are there for others: what stands one behind the other, or one try within the other, needs no more than one of them.
func TestRegistersAgain(t *testing.T) {
	for _, s := range []string{
		many("{ let a = 1; let b = 2; for (const c of [a, b]) { try { print(c); } catch (d) { } finally { } } }", 49, " "),
		many("try {", 50, " ") + many("} finally { }", 50, " "),
		"[" + many("print(1, 2, 3)", 500, ",") + "];",
		"let a = 1; " + many("a", 250, "+") + ";",
		"let o = {" + many("x: print(1)", 500, ",") + "};",
	} {
		for _, f := range emitted(t, s).Funcs {
			if f.Regs > 12 {
				t.Errorf("%.200s: %d registers", s, f.Regs)
			}
		}
	}
}

// texts is a program of so many statements, each a text unlike the others.
func texts(times int) api.Node {
	var l []api.Node
	for i := range times {
		l = append(l, node(api.NodeExpr, api.Node{Kind: api.NodeString, Name: fmt.Sprint(i)}))
	}
	return program(l...)
}

// P9.1: a function that needs just MaxCode instructions, and one that needs more; so many constants.
func TestMaxCode(t *testing.T) {
	t.Parallel()
	most := api.MaxCode - 2 // what is behind them returns undefined
	for _, c := range []struct {
		times int
		fits  bool
	}{{1, true}, {most - 1, true}, {most, true}, {most + 1, false}} {
		n := texts(c.times)
		what := fmt.Sprint("texts: ", c.times)
		if !c.fits {
			tooMuch(t, what, n, resolved(t, what, n))
			continue
		}
		p := codeOf(t, what, n, resolved(t, what, n))
		if len(p.Funcs[0].Consts) != c.times || len(p.Funcs[0].Code) != c.times+2 {
			t.Error(what, len(p.Funcs[0].Consts), len(p.Funcs[0].Code))
		}
	}
}

// P9.1: what has more constants than MaxConsts, more instructions than MaxCode, in the program, in a function of it, in a place that is never come to.
func TestMuchMore(t *testing.T) {
	t.Parallel()
	var l []api.Node
	for i := range 130000 {
		l = append(l, api.Node{Kind: api.NodeNumber, Num: uint64(i)})
	}
	list := node(api.NodeExpr, node(api.NodeArray, l...))
	same := node(api.NodeExpr, node(api.NodeArray, make([]api.Node, 60000)...))
	for i := range same.Kids[0].Kids {
		same.Kids[0].Kids[i].Kind = api.NodeTrue
	}
	for what, n := range map[string]api.Node{
		"numbers":       program(list),
		"one value":     program(same),
		"in a function": program(node(api.NodeExpr, node(api.NodeFunction, node(api.NodeBlock, list)))),
		"not come to":   program(node(api.NodeIf, node(api.NodeFalse), list, api.Node{})),
	} {
		tooMuch(t, what, n, resolved(t, what, n))
	}
}

// P9.1: as many functions, as deep, as scope takes: each of them is there.
func TestMaxFuncs(t *testing.T) {
	s := many("(function () { });", api.MaxFuncs-1, " ")
	if p := emitted(t, s); len(p.Funcs) != api.MaxFuncs {
		t.Error(len(p.Funcs))
	}
	n := node(api.NodeReturn, node(api.NodeThis))
	for range 90 {
		n = node(api.NodeReturn, node(api.NodeFunction, node(api.NodeBlock, n)))
	}
	deep := program(node(api.NodeExpr, n.Kids[0]))
	if p := codeOf(t, "deep", deep, resolved(t, "deep", deep)); len(p.Funcs) != 91 {
		t.Error(len(p.Funcs))
	}
}

// P9.1, P9.2: a variable that is captured through many functions.
func TestDeepCapture(t *testing.T) {
	deep := func(s, inner, lines string) {
		prints(t, "let a = 1; let f = "+many("function () { return", 15, " ")+inner+many("; }", 15, " ")+"; let i = 0; while (i < 15) { f = f(); i++; } print(f, a);", lines, "done")
	}
	deep("read", " a", "1 1")
	deep("given", " a = 7", "7 7")
	deep("changed", " ++a", "2 2")
}

// P9.1: a try whose finally is left in many ways needs no more code for each of them than for the others.
func TestManyWays(t *testing.T) {
	var labels, breaks, calls strings.Builder
	for i := range 20 {
		fmt.Fprintf(&labels, "l%d: ", i)
		fmt.Fprintf(&breaks, "if (n === %d) { break l%d; } ", i, i)
		fmt.Fprintf(&calls, "f(%d); ", i)
	}
	s := "let done = 0; function f(n) { " + strings.ReplaceAll(labels.String(), ": ", ": { ") + "try { " + breaks.String() + " return n; } finally { done += 1; }" + strings.Repeat(" done += 100; }", 20) + " return n; } " + calls.String() + " print(done);"
	// A break to the label i goes past the adding of all that are within it, and does those around it.
	sum := 20
	for i := range 20 {
		sum += 100 * i
	}
	prints(t, s, fmt.Sprint(sum), "done")
	long := "a: b: c: for (;;) { try { " + strings.Repeat("break a; continue b; break c; ", 1500) + " } finally { } }"
	if p := emitted(t, long); len(p.Funcs[0].Code) > 3*1500*2 {
		t.Error(len(p.Funcs[0].Code))
	}
}
