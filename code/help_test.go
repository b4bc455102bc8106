package code_test

import (
	"slices"
	"testing"

	"brazier/api"
	"brazier/code"
)

var back = api.Instr{Op: api.OpReturn}

// one: a program of one function: 4 registers, a constant that is a number, one that is a text.
func one(l ...api.Instr) api.Program {
	return api.Program{Funcs: []api.Func{{Regs: 4, Code: l, Consts: []api.Const{{}, {IsText: true, Text: "a"}}}}}
}

// three: a program whose function 1 is a generator that is made by the program and takes along its register 3, and whose function 2 is made by function 1, and takes along a register of it and what it took along.
func three() api.Program {
	return api.Program{Funcs: []api.Func{
		{Regs: 4, Code: []api.Instr{{Op: api.OpBox, A: 3}, {Op: api.OpClosure, A: 0, B: 1}, back}},
		{Regs: 4, Params: 2, Generator: true, Consts: []api.Const{{IsText: true, Text: "a"}, {Bits: 1}, {}},
			Code:     []api.Instr{{Op: api.OpNop}, {Op: api.OpBox, A: 2}, {Op: api.OpClosure, A: 3, B: 2}, {Op: api.OpYield, A: 0, B: 1}, back, {Op: api.OpCatch, A: 1}, {Op: api.OpThrow, A: 1}},
			Captures: []api.Capture{{Index: 3}},
			Handlers: []api.Handler{{From: 1, To: 4, Target: 5}, {From: 0, To: 7, Target: 0}}},
		{Regs: 1, Params: 1, Code: []api.Instr{{Op: api.OpFree, B: 1}, {Op: api.OpFree, B: 0}, back}, Captures: []api.Capture{{Free: true}, {Index: 2}}},
	}}
}

// checks: the program is taken just if it is to be.
func checks(t *testing.T, what string, p api.Program, right bool) {
	t.Helper()
	want := api.ErrCodeForm
	if right {
		want = api.OK
	}
	if got := code.Check(p); got != want {
		t.Errorf("%s: %d, not %d", what, got, want)
	}
}

func clone(p api.Program) api.Program {
	q := api.Program{Funcs: slices.Clone(p.Funcs)}
	for i := range q.Funcs {
		f := &q.Funcs[i]
		f.Code, f.Consts, f.Captures, f.Handlers = slices.Clone(f.Code), slices.Clone(f.Consts), slices.Clone(f.Captures), slices.Clone(f.Handlers)
	}
	return q
}

// chance: numbers that look random, the same each time.
type chance uint64

func (c *chance) below(n int) int {
	*c += 0x9e3779b97f4a7c15
	z := uint64(*c)
	z = (z ^ z>>30) * 0xbf58476d1ce4e5b9
	z = (z ^ z>>27) * 0x94d049bb133111eb
	return int((z ^ z>>31) % uint64(n))
}

func (c *chance) of(l ...int) int { return l[c.below(len(l))] }
