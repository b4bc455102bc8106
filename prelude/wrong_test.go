package prelude_test

import (
	"math"
	"testing"

	"brazier/api"
	"brazier/code"
)

// P16.2: a program of no functions.
func TestJoinedNothing(t *testing.T) {
	refuses(t, "no list", api.Program{})
	refuses(t, "an empty list", api.Program{Funcs: []api.Func{}})
	refuses(t, "a function of nothing", api.Program{Funcs: []api.Func{{}}})
	refuses(t, "too many functions", api.Program{Funcs: make([]api.Func, api.MaxFuncs+1)})
}

// P16.2: what was joined is no program that code.Check must take; but if it does, it can be joined again.
func TestJoinedTwice(t *testing.T) {
	all := joined(t, two())
	again := joins(t, "what was joined", all)
	if len(again.Funcs) != 2*ahead+2 || again.Funcs[2*ahead].Code[0].B != 2*ahead+1 {
		t.Errorf("%d functions, %v", len(again.Funcs), again.Funcs[2*ahead].Code)
	}
	many := api.Program{Funcs: make([]api.Func, api.MaxFuncs)}
	for i := range many.Funcs {
		many.Funcs[i] = api.Func{Regs: 1, Code: []api.Instr{{Op: api.OpReturn}}}
	}
	refuses(t, "more functions than may be", joined(t, many))
}

// P16.2: programs of which one thing is not as code.Check asks for it.
func TestJoinedWrong(t *testing.T) {
	change := func(what string, do func(first, second *api.Func)) {
		t.Helper()
		p := two()
		do(&p.Funcs[0], &p.Funcs[1])
		refuses(t, what, p)
	}
	change("the first one has parameters", func(f, _ *api.Func) { f.Params = 1 })
	change("the first one is a generator", func(f, _ *api.Func) { f.Generator = true })
	change("the first one takes something along", func(f, _ *api.Func) { f.Captures = []api.Capture{{}} })
	change("no code", func(_, f *api.Func) { f.Code = nil })
	change("too much code", func(_, f *api.Func) { f.Code = make([]api.Instr, api.MaxCode+1) })
	change("too many constants", func(_, f *api.Func) { f.Consts = make([]api.Const, api.MaxConsts+1) })
	change("fewer registers than none", func(_, f *api.Func) { f.Regs = -1 })
	change("too many registers", func(_, f *api.Func) { f.Regs = api.MaxRegs + 1 })
	change("more parameters than registers", func(_, f *api.Func) { f.Params = 2 })
	change("an end that goes on", func(f, _ *api.Func) { f.Code = f.Code[:1] })
	change("a Handler of nothing", func(f, _ *api.Func) { f.Handlers = []api.Handler{{}} })
	change("a Handler behind the end", func(f, _ *api.Func) { f.Handlers = []api.Handler{{From: 0, To: 3}} })
	change("a Target behind the end", func(f, _ *api.Func) { f.Handlers = []api.Handler{{From: 0, To: 2, Target: 2}} })
	change("a register that is not there", func(f, _ *api.Func) { f.Code[0].A = 1 })
	change("an operand that must be 0", func(f, _ *api.Func) { f.Code[0].C = 1 })
	change("a yield in no generator", func(_, f *api.Func) { f.Code = []api.Instr{{Op: api.OpYield}, {Op: api.OpReturn}} })
	change("a register to take along that is not there", func(_, f *api.Func) { f.Captures = []api.Capture{{Index: 1}} })
	change("what the maker did not take along", func(_, f *api.Func) { f.Captures = []api.Capture{{Free: true}} })
	for _, op := range []int{math.MinInt, -1, api.Ops + 1, math.MaxInt} {
		change("no such Op", func(f, _ *api.Func) { f.Code[0] = api.Instr{Op: op} })
	}
	for _, b := range []int{math.MinInt, -ahead, -1, 0, 2, ahead, ahead + 1, math.MaxInt - ahead, math.MaxInt} {
		change("no such function", func(f, _ *api.Func) { f.Code[0].B = b })
		change("no such function", func(_, f *api.Func) {
			f.Code = []api.Instr{{Op: api.OpReturn}, {Op: api.OpClosure, B: b}, {Op: api.OpReturn}}
		})
	}
}

// P16.2: a program is refused just if code.Check refuses it.
func TestJoinedAsChecked(t *testing.T) {
	c := chance(1616)
	taken, refused := 0, 0
	for range 3000 {
		p := byChance(&c)
		spoil(&c, p)
		if code.Check(p) == api.OK {
			taken++
			joins(t, "a changed program", p)
		} else {
			refused++
			refuses(t, "a changed program", p)
		}
	}
	if taken < 100 || refused < 100 {
		t.Errorf("%d were taken, %d refused", taken, refused)
	}
}

// spoil changes a number of a program.
func spoil(c *chance, p api.Program) {
	f := &p.Funcs[c.below(len(p.Funcs))]
	i := &f.Code[c.below(len(f.Code))]
	at := one(c, &i.Op, &i.A, &i.B, &i.C, &f.Params, &f.Regs)
	if len(f.Captures) > 0 && c.below(4) == 0 {
		at = &f.Captures[c.below(len(f.Captures))].Index
	}
	if len(f.Handlers) > 0 && c.below(4) == 0 {
		h := &f.Handlers[c.below(len(f.Handlers))]
		at = one(c, &h.From, &h.To, &h.Target)
	}
	*at = one(c, *at-1, *at+1, 0, 1, 12, 40, c.below(60), -1, math.MaxInt, math.MinInt)
}
