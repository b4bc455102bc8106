package prelude_test

import (
	"fmt"
	"slices"
	"strings"
	"testing"

	"brazier/api"
	"brazier/code"
)

// two is the program of the chapter's example: two functions, the first of which makes the second.
func two() api.Program {
	return api.Program{Funcs: []api.Func{
		{Regs: 1, Code: []api.Instr{{Op: api.OpClosure, B: 1}, {Op: api.OpReturn}}},
		{Regs: 1, Code: []api.Instr{{Op: api.OpReturn}}},
	}}
}

// P16.2: the chapter's example, written out.
func TestJoinedExample(t *testing.T) {
	all := joins(t, "the example", two())
	if len(all.Funcs) != ahead+2 {
		t.Fatalf("%d functions", len(all.Funcs))
	}
	if got := all.Funcs[ahead].Code; !slices.Equal(got, []api.Instr{{Op: api.OpClosure, B: 8}, {Op: api.OpReturn}}) {
		t.Errorf("from n: %v", got)
	}
	if got := all.Funcs[ahead+1].Code; !slices.Equal(got, []api.Instr{{Op: api.OpReturn}}) {
		t.Errorf("from n + 1: %v", got)
	}
}

// P16.2: the prelude's own code is not renumbered: its program makes its own six.
func TestPreludeStays(t *testing.T) {
	for _, p := range []api.Program{two(), made(t, ""), made(t, "function f() { return function () {}; }")} {
		all := joins(t, "a program", p)
		if got := closures(all.Funcs[0]); !slices.Equal(got, []int{1, 2, 3, 4, 5, 6}) {
			t.Errorf("the prelude makes %v", got)
		}
		for i, f := range all.Funcs[1:ahead] {
			if len(closures(f)) != 0 {
				t.Errorf("the prelude's function %d makes %v", i+1, closures(f))
			}
		}
	}
}

// texts are programs of one function and of several, with functions within functions.
func texts() []string {
	return []string{
		``,
		`;`,
		`print(1 + 2 * 3, "a" + 1);`,
		`let x = 12; print(x, 12, "12");`,
		`function f() {}`,
		`function f() { return f; } f();`,
		`let f = function g(n) { return n ? g(n - 1) : g; }; f(3);`,
		`function a() { function b() { function c() { return a; } return c; } return b; } print(a()()());`,
		`function a(x) { return function (y) { return function (z) { return x + y + z; }; }; } print(a(1)(2)(3));`,
		`let f = []; for (const x of [1, 2]) { f.push(function () { return x; }); } print(f[0](), f[1]());`,
		`function P(a) { this.a = a; } P.prototype.get = function () { return this.a; }; print(new P(4).get());`,
		`function* g(n) { let i = 0; while (i < n) { yield i; i++; } } for (const x of g(2)) { print(x); }`,
		`function* g() { yield function* () { yield function () { return g; }; }; }`,
		`let o = {get a() { return 1; }, set a(v) { print(v); }, f: function () { return function () { return o; }; }}; print(o.a);`,
		`function g() { try { return 1; } finally { print(2); } } print(g());`,
		`function g() { try { throw function () { return g; }; } catch (e) { return function () { return e; }; } finally { let f = function () { return f; }; } }`,
		`{ function a() { return b; } function b() { return a; } } { function a() {} }`,
		`print(12 + 12, -12, 12 * 12, 12 in {}, 12 == "12"); print(function () { return 12; }, 12);`,
	}
}

// P16.2: programs as parse, scope and emit make them of texts.
func TestJoinedTexts(t *testing.T) {
	for _, s := range append(texts(), strings.Join(lines(), "\n")) {
		joins(t, s, made(t, s))
	}
}

// P16.2: texts by chance: functions of all kinds within one another, that take along what is around them.
func TestJoinedChanceTexts(t *testing.T) {
	c := chance(16)
	most := 0
	for range 300 {
		w := writer{chance: &c, left: 1 + c.below(60)}
		s := w.items()
		all := joins(t, s, made(t, s))
		most = max(most, len(all.Funcs)-ahead)
	}
	if most < 30 {
		t.Errorf("at most %d functions", most)
	}
}

// writer writes texts; left is how many functions more there may be.
type writer struct {
	*chance
	left, names int
}

// items are those of a function's block; around are the variables of those in which it stands.
func (w *writer) items(around ...string) string {
	w.names++
	mine := fmt.Sprint("v", w.names)
	l := []string{"let " + mine + " = 12;"}
	around = append(slices.Clone(around), mine)
	for range 1 + w.below(4) {
		l = append(l, w.item(around))
	}
	return strings.Join(l, " ")
}

func (w *writer) item(around []string) string {
	name := one(w.chance, around...)
	if w.left <= 0 || len(around) > 6 {
		return one(w.chance, name+" += 12;", "print("+name+", 12);", "while ("+name+" > 12) "+name+"--;")
	}
	w.left--
	w.names++
	number := w.names
	star := one(w.chance, "", "", "*")
	params := one(w.chance, "", "p", "p, q")
	body := "{ " + w.items(around...) + " return " + name + "; }"
	switch w.below(5) {
	case 0:
		return fmt.Sprintf("function%s f%d(%s) %s", star, number, params, body)
	case 1:
		return fmt.Sprintf("%s = function%s (%s) %s;", name, star, params, body)
	case 2:
		return fmt.Sprintf("try { print({get a() %s}); } catch (e) { print(e); }", body)
	case 3:
		return fmt.Sprintf("for (const x of [12]) { %s.push(function%s self(%s) %s, x); }", name, star, params, body)
	}
	return fmt.Sprintf("if (%s) (function (%s) %s)();", name, params, body)
}

// every is a program of three functions whose code has each instruction that there is, with operands of all sizes; the number of OpClosure, and those of functions, are operands of others too.
func every() api.Program {
	c := chance(62)
	p := blank(3, &c)
	for i := range p.Funcs {
		p.Funcs[i].Code = nil
		for op := range api.Ops + 1 {
			for range 20 {
				p.Funcs[i].Code = append(p.Funcs[i].Code, instr(&c, p, i, op))
			}
		}
		p.Funcs[i].Code = append(p.Funcs[i].Code, api.Instr{Op: api.OpReturn})
	}
	return p
}

// blank is a program of so many functions without code: the second one is a generator, the third one takes along what its makers have.
func blank(many int, c *chance) api.Program {
	p := api.Program{Funcs: make([]api.Func, many)}
	for i := range p.Funcs {
		f := &p.Funcs[i]
		f.Name = one(c, "", "f", "g")
		f.Regs = 20 + c.below(30)
		for range 20 {
			f.Consts = append(f.Consts, one(c, api.Const{Bits: uint64(c.below(99))}, api.Const{IsText: true, Text: one(c, "", "a", "b")}))
		}
		f.Consts = append(f.Consts, api.Const{IsText: true, Text: "last"})
		if i > 0 {
			f.Generator = i == 1 || c.below(3) == 0
			f.Params = c.below(f.Regs + 1)
			for range c.below(20) {
				f.Captures = append(f.Captures, api.Capture{Index: c.below(20), Free: i > 2 && c.below(4) == 0})
			}
		}
		f.Code = make([]api.Instr, 40) // so that there are places to go to
		for range c.below(4) {
			from := c.below(40)
			f.Handlers = append(f.Handlers, api.Handler{From: from, To: from + 1 + c.below(40-from), Target: c.below(40)})
		}
	}
	return p
}

// instr is an instruction of that op that a function may have; OpNop, if it may have none.
func instr(c *chance, p api.Program, of, op int) api.Instr {
	f := p.Funcs[of]
	if op == api.OpYield && !f.Generator {
		return api.Instr{}
	}
	l := [3]int{}
	for k, letter := range code.Shape(op) {
		switch letter {
		case 'w', 'r':
			l[k] = c.below(f.Regs)
			if code.Shape(op)[2] == 'n' && k == 1 {
				l[k] = c.below(f.Regs - 1)
			}
		case 'k':
			l[k] = c.below(len(f.Consts))
		case 'x':
			for l[k] = c.below(len(f.Consts)); !f.Consts[l[k]].IsText; l[k] = c.below(len(f.Consts)) {
			}
		case 's':
			l[k] = c.below(5)
		case 'f':
			l[k] = 1 + c.below(len(p.Funcs)-1)
		case 'c':
			if len(f.Captures) == 0 {
				return api.Instr{}
			}
			l[k] = c.below(len(f.Captures))
		case 'b':
			l[k] = c.below(api.Builtins)
		case 't':
			l[k] = c.below(40)
		case 'h':
			l[k] = c.below(2)
		case 'n':
			l[k] = c.below(f.Regs - 1 - l[1])
		}
	}
	if op == api.OpClosure && slices.ContainsFunc(p.Funcs[l[1]].Captures, func(x api.Capture) bool { return x.Free && x.Index >= len(f.Captures) }) {
		return api.Instr{}
	}
	return api.Instr{Op: op, A: l[0], B: l[1], C: l[2]}
}

// P16.2: no other operand is changed, of whatever instruction.
func TestJoinedEveryInstruction(t *testing.T) {
	p := every()
	met := map[int]bool{}
	for _, f := range p.Funcs {
		for _, i := range f.Code {
			met[i.Op] = true
		}
	}
	if len(met) != api.Ops+1 {
		t.Fatalf("%d Ops", len(met))
	}
	joins(t, "every instruction", p)
}

// P16.2: code by chance that may be, as no text makes it.
func TestJoinedChanceCode(t *testing.T) {
	c := chance(162)
	for range 200 {
		joins(t, "code by chance", byChance(&c))
	}
}

func byChance(c *chance) api.Program {
	p := blank(2+c.below(9), c)
	for i := range p.Funcs {
		for k := range p.Funcs[i].Code {
			p.Funcs[i].Code[k] = instr(c, p, i, one(c, api.OpClosure, c.below(api.Ops+1)))
		}
		last := one(c, api.Instr{Op: api.OpReturn, A: 12}, api.Instr{Op: api.OpThrow, A: 12}, api.Instr{Op: api.OpJump, A: 12})
		p.Funcs[i].Code = append(p.Funcs[i].Code, last)
	}
	return p
}

// P16.2: each OpClosure: of functions that make themselves, or one another, or one many times; that nobody makes, or reaches; at the first place and behind the end.
func TestJoinedClosures(t *testing.T) {
	back := api.Instr{Op: api.OpReturn}
	makes := func(l ...int) api.Func {
		f := api.Func{Regs: 3}
		for _, b := range l {
			f.Code = append(f.Code, api.Instr{Op: api.OpClosure, A: 2, B: b})
		}
		f.Code = append(f.Code, back)
		return f
	}
	joins(t, "itself", api.Program{Funcs: []api.Func{makes(), makes(1)}})
	joins(t, "one another", api.Program{Funcs: []api.Func{makes(1, 2, 3), makes(2, 1), makes(1, 3, 3, 3), makes()}})
	joins(t, "one behind it, one ahead", api.Program{Funcs: []api.Func{makes(3), makes(2), makes(1), makes(2)}})
	joins(t, "by nobody", api.Program{Funcs: []api.Func{makes(), makes(), makes(1, 2)}})
	dead := makes(1)
	dead.Code = []api.Instr{back, {Op: api.OpClosure, B: 1}, {Op: api.OpJump, A: 1}}
	joins(t, "behind the return", api.Program{Funcs: []api.Func{dead, dead}})
	takes := makes(2)
	takes.Captures = []api.Capture{{Index: 2}, {Index: 1}}
	free := makes()
	free.Captures = []api.Capture{{Free: true, Index: 1}, {Index: 2}}
	joins(t, "what is taken along", api.Program{Funcs: []api.Func{makes(1), takes, free}})
}

// P16.2: programs at the limits: the whole has more functions than a program may have.
func TestJoinedLimits(t *testing.T) {
	many := api.Program{Funcs: make([]api.Func, api.MaxFuncs)}
	for i := range many.Funcs {
		many.Funcs[i] = api.Func{Regs: 1, Code: []api.Instr{{Op: api.OpClosure, B: max(1, i)}, {Op: api.OpClosure, B: api.MaxFuncs - 1}, {Op: api.OpReturn}}}
	}
	all := joins(t, "MaxFuncs functions", many)
	if len(all.Funcs) != ahead+api.MaxFuncs || all.Funcs[ahead+api.MaxFuncs-1].Code[0].B != ahead+api.MaxFuncs-1 {
		t.Errorf("%d functions", len(all.Funcs))
	}
	long := two()
	f := &long.Funcs[1]
	f.Regs, f.Params = api.MaxRegs, api.MaxRegs
	f.Code = make([]api.Instr, api.MaxCode)
	for i := range f.Code {
		f.Code[i] = api.Instr{Op: api.OpClosure, A: i % api.MaxRegs, B: 1}
	}
	f.Code[api.MaxCode-1] = api.Instr{Op: api.OpJump, A: api.MaxCode - 1}
	f.Consts = make([]api.Const, api.MaxConsts)
	f.Handlers = slices.Repeat([]api.Handler{{From: 0, To: api.MaxCode, Target: api.MaxCode - 1}}, 1000)
	joins(t, "MaxCode instructions", long)
	joins(t, "no registers", api.Program{Funcs: []api.Func{{Code: []api.Instr{{Op: api.OpJump}}}}})
}

// P16.2, R5: functions of a program that share their lists get lists of their own, and each OpClosure is renumbered once.
func TestJoinedSharedLists(t *testing.T) {
	row := []api.Instr{{Op: api.OpClosure, B: 1}, {Op: api.OpClosure, B: 2}, {Op: api.OpReturn}}
	consts := []api.Const{{Bits: 12}, {IsText: true, Text: "a"}}
	handlers := []api.Handler{{From: 0, To: 1, Target: 1}}
	f := api.Func{Regs: 1, Code: row, Consts: consts, Handlers: handlers}
	p := api.Program{Funcs: []api.Func{f, f, f}}
	was := whole(p)
	all, again := joined(t, p), joined(t, p)
	want := behind(p)
	if !same(api.Program{Funcs: all.Funcs[ahead:]}, want) {
		t.Error(unlike(api.Program{Funcs: all.Funcs[ahead:]}, want))
	}
	if !scribble(all) {
		t.Error("two lists of the answer share memory")
	}
	if !same(whole(p), was) || !same(api.Program{Funcs: again.Funcs[ahead:]}, want) {
		t.Error("what is written into the answer is seen elsewhere")
	}
	joins(t, "the shared lists", p)
}
