package machine_test

import (
	"slices"
	"strings"
	"testing"

	"brazier/api"
	"brazier/machine"
	"brazier/prelude"
	"brazier/word"
)

// P17.1: the machine stands ahead of the program's first instruction; Program is the joined one, the caller's own.
func TestNew(t *testing.T) {
	for _, s := range []string{"", "print(1);", "function f() { return function () { return f; }; } print(f()());"} {
		p := codeOf(t, s)
		m := of(t, p)
		if m.Count() != 0 || m.End() != api.EndRunning || m.Func() != ahead || m.Pc() != 0 || m.Uncaught() != "" || len(m.Log()) != 0 {
			t.Error(s, m.Count(), m.End(), m.Func(), m.Pc(), m.Uncaught(), m.Log())
		}
		for n := range p.Funcs[0].Regs {
			if m.Reg(n) != word.Undefined {
				t.Errorf("%s: register %d has %x", s, n, m.Reg(n))
			}
		}
		want, _, _ := prelude.Joined(p)
		if !sameProgram(m.Program(), want) {
			t.Error(s, "Program is not the joined one")
		}
	}
}

func sameProgram(p, q api.Program) bool {
	return slices.EqualFunc(p.Funcs, q.Funcs, func(f, g api.Func) bool {
		return f.Name == g.Name && f.Params == g.Params && f.Regs == g.Regs && f.Generator == g.Generator &&
			slices.Equal(f.Code, g.Code) && slices.Equal(f.Consts, g.Consts) && slices.Equal(f.Captures, g.Captures) && slices.Equal(f.Handlers, g.Handlers)
	})
}

// scribble writes all over a program.
func scribble(p api.Program) {
	for i, f := range p.Funcs {
		for k := range f.Code {
			f.Code[k] = api.Instr{Op: api.OpThrow}
		}
		for k := range f.Consts {
			f.Consts[k] = api.Const{IsText: true, Text: "scribbled"}
		}
		for k := range f.Captures {
			f.Captures[k] = api.Capture{Index: 99}
		}
		for k := range f.Handlers {
			f.Handlers[k] = api.Handler{To: 9}
		}
		p.Funcs[i] = api.Func{}
	}
}

// P17.1, R4, R5: neither what was handed in nor what is told is the machine's.
func TestOwn(t *testing.T) {
	s := `let a = 1; function f() { try { a++; throw "x"; } catch (e) { return e + a; } } print(f(), f());`
	p := codeOf(t, s)
	was := codeOf(t, s)
	m := of(t, p)
	if !sameProgram(p, was) {
		t.Error("what was handed in is changed")
	}
	scribble(p)
	scribble(m.Program())
	run(m, plenty)
	if got := m.Log(); len(got) != 1 || got[0] != "x2 x3" || m.End() != api.EndDone {
		t.Error(got, ended(m))
	}
	m.Log()[0] = "scribbled"
	slices.Reverse(m.State())
	if m.Log()[0] != "x2 x3" {
		t.Error("Log is the machine's")
	}
}

// P17.1: programs that prelude.Joined refuses.
func TestRefused(t *testing.T) {
	good := api.Program{Funcs: []api.Func{{Regs: 1, Code: []api.Instr{{Op: api.OpReturn}}}}}
	if _, e := machine.New(good); e != api.OK {
		t.Fatal(e)
	}
	change := func(what string, do func(f *api.Func)) {
		p := api.Program{Funcs: slices.Clone(good.Funcs)}
		p.Funcs[0].Code = slices.Clone(p.Funcs[0].Code)
		do(&p.Funcs[0])
		_, _, want := prelude.Joined(p)
		if m, e := machine.New(p); e != want || e == api.OK || m != nil {
			t.Error(what, e, want, m)
		}
	}
	change("no code", func(f *api.Func) { f.Code = nil })
	change("parameters", func(f *api.Func) { f.Params = 1 })
	change("no registers", func(f *api.Func) { f.Regs = 0 })
	change("too many registers", func(f *api.Func) { f.Regs = api.MaxRegs + 1 })
	change("a generator", func(f *api.Func) { f.Generator = true })
	change("an end that goes on", func(f *api.Func) { f.Code[0].Op = api.OpThis })
	change("no such Op", func(f *api.Func) { f.Code[0].Op = api.Ops + 1 })
	change("no such Op", func(f *api.Func) { f.Code[0].Op = -1 })
	change("a jump to nowhere", func(f *api.Func) { f.Code[0] = api.Instr{Op: api.OpJump, A: 1} })
	change("a Handler to nowhere", func(f *api.Func) { f.Handlers = []api.Handler{{To: 1, Target: 1}} })
	for _, p := range []api.Program{{}, {Funcs: []api.Func{}}, {Funcs: []api.Func{{}}}, {Funcs: make([]api.Func, api.MaxFuncs+1)}} {
		if m, e := machine.New(p); e != api.ErrCodeForm || m != nil {
			t.Error(e, m)
		}
	}
}

// P17.2: one instruction a step; each one counts; what was printed grows.
func TestSteps(t *testing.T) {
	m := load(t, `print(1); for (const x of [2, 3]) { print(x); } print(4); throw 5;`)
	var was []string
	for n := 0; ; n++ {
		if m.Count() != n || len(m.Log()) < len(was) || !slices.Equal(m.Log()[:len(was)], was) {
			t.Fatal(m.Count(), m.Log(), was)
		}
		was = m.Log()
		running := m.End() == api.EndRunning
		if m.Step() != running {
			t.Fatal("Step, while End is", m.End())
		}
		if !running {
			break
		}
	}
	if ended(m) != "thrown 5" || strings.Join(m.Log(), "|") != "1|2|3|4" {
		t.Error(ended(m), m.Log())
	}
	stands(t, m)
}

// P17.3: Reg, SetReg of registers that are there, and not.
func TestRegisters(t *testing.T) {
	m := of(t, api.Program{Funcs: []api.Func{{Regs: 3, Code: []api.Instr{{Op: api.OpNop}, {Op: api.OpReturn}}}}})
	for n, w := range []api.Word{7, word.Hole, word.Object(12345678)} {
		m.SetReg(n, w)
	}
	for n, want := range []api.Word{7, word.Hole, word.Object(12345678)} {
		if m.Reg(n) != want {
			t.Errorf("%d: %x", n, m.Reg(n))
		}
	}
	was := strings.Join(m.State(), "\n")
	for _, n := range []int{-1, 3, 4, 399, 400, 1 << 40, -1 << 63, 1<<63 - 1} {
		m.SetReg(n, 9)
		if m.Reg(n) != word.Undefined {
			t.Errorf("%d: %x", n, m.Reg(n))
		}
	}
	if strings.Join(m.State(), "\n") != was || m.Count() != 0 {
		t.Error("a register that is not there was laid")
	}
}

// P17.3: Skip and Jump count; to places that are not there they do nothing.
func TestSkipAndJump(t *testing.T) {
	m := of(t, api.Program{Funcs: []api.Func{{Regs: 1, Code: []api.Instr{{Op: api.OpThrow}, {Op: api.OpSmall, B: 3}, {Op: api.OpReturn}}}}})
	at := func(what string, pc, count int) {
		t.Helper()
		if m.Pc() != pc || m.Count() != count || m.Func() != ahead || m.End() != api.EndRunning {
			t.Error(what, m.Pc(), m.Count(), m.Func(), m.End())
		}
	}
	m.Skip()
	at("skip", 1, 1)
	m.Skip()
	at("skip", 2, 2)
	m.Skip()
	at("nothing is behind it", 2, 2)
	m.Jump(0)
	at("jump", 0, 3)
	m.Jump(0)
	at("jump to where it is", 0, 4)
	for _, to := range []int{-1, 3, 4, 1 << 40, -1 << 63, 1<<63 - 1} {
		m.Jump(to)
		at("no such place", 0, 4)
	}
	m.Jump(1)
	m.Step()
	at("step", 2, 6)
	if m.Reg(0) != word.True {
		t.Errorf("%x", m.Reg(0))
	}
	m.Step()
	if m.Count() != 7 || m.End() != api.EndDone {
		t.Error(m.Count(), m.End())
	}
	stands(t, m)
}

// P17.3: Func, Pc and the registers are those of the call that goes on, in functions, the prelude's, generators.
func TestWhere(t *testing.T) {
	m := load(t, `function* g() { yield 1; } function f(a) { return a + 1; } let i = g(); i.next(); print(f(f), {} + "", i.next().done);`)
	seen := map[int]bool{}
	var calls []int
	p := m.Program()
	for m.End() == api.EndRunning {
		fn, pc, count := m.Func(), m.Pc(), m.Count()
		if fn < 0 || fn >= len(p.Funcs) || pc < 0 || pc >= len(p.Funcs[fn].Code) {
			t.Fatal(fn, pc)
		}
		seen[fn] = true
		i := p.Funcs[fn].Code[pc]
		regs := p.Funcs[fn].Regs
		if m.Reg(regs) != word.Undefined {
			t.Fatal("a register too many")
		}
		m.Step()
		if m.Count() != count+1 {
			t.Fatal(m.Count())
		}
		if m.Func() != fn {
			calls = append(calls, i.Op)
		} else if next := m.Pc(); i.Op != api.OpJump && i.Op != api.OpJumpIf && i.Op != api.OpJumpNot && next != pc+1 {
			t.Fatal(i, pc, next)
		}
	}
	if len(seen) != 4 || !seen[ahead] || !seen[ahead+1] || !seen[ahead+2] || strings.Join(m.Log(), "|") != "function1 [object Object] true" {
		t.Error(seen, m.Log(), ended(m))
	}
	for _, op := range []int{api.OpCall, api.OpReturn, api.OpYield, api.OpPrim} {
		if !slices.Contains(calls, op) {
			t.Error("nothing goes on elsewhere at", op)
		}
	}
}

// R1: a machine that New did not make, and none, have nothing that could go on.
func TestNoMachine(t *testing.T) {
	for _, m := range []*machine.Machine{nil, {}} {
		m.SetReg(0, 1)
		m.Skip()
		m.Jump(0)
		if m.Step() || m.Func() != -1 || m.Pc() != 0 || m.Reg(0) != word.Undefined || m.Count() != 0 || m.Uncaught() != "" || len(m.Log()) != 0 || len(m.Program().Funcs) != 0 || m.End() == api.EndRunning {
			t.Error(m.Func(), m.Pc(), m.Count(), m.End())
		}
		if m.Heap().Objects() != 0 {
			t.Error("objects")
		}
		m.State()
	}
}
