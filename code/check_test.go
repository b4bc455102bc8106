package code_test

import (
	"fmt"
	"math"
	"slices"
	"testing"

	"brazier/api"
	"brazier/code"
)

// P8.2: how many functions there may be.
func TestHowManyFunctions(t *testing.T) {
	checks(t, "no program", api.Program{}, false)
	checks(t, "an empty list", api.Program{Funcs: []api.Func{}}, false)
	for _, n := range []int{1, 2, 3, api.MaxFuncs - 1, api.MaxFuncs, api.MaxFuncs + 1, 2 * api.MaxFuncs} {
		p := api.Program{Funcs: slices.Repeat(one(back).Funcs, n)}
		checks(t, fmt.Sprint(n, " functions"), p, n <= api.MaxFuncs)
	}
}

// P8.2: what the first function must not have, and what the others may.
func TestFirstFunction(t *testing.T) {
	for what, change := range map[string]func(f *api.Func){
		"a parameter":       func(f *api.Func) { f.Params = 1 },
		"a generator":       func(f *api.Func) { f.Generator = true },
		"one is taken":      func(f *api.Func) { f.Captures = []api.Capture{{Index: 0}} },
		"a free one":        func(f *api.Func) { f.Captures = []api.Capture{{Free: true}} },
		"all the registers": func(f *api.Func) { f.Params = 4 },
	} {
		p := api.Program{Funcs: append(one(back).Funcs, one(back).Funcs...)}
		change(&p.Funcs[1])
		checks(t, what+", in the second", p, true)
		change(&p.Funcs[0])
		checks(t, what+", in the first", p, false)
	}
	p := one(back)
	p.Funcs[0].Name, p.Funcs[0].Captures, p.Funcs[0].Handlers = "f", []api.Capture{}, []api.Handler{}
	checks(t, "a name, and empty lists", p, true)
}

// P8.2: how much a function may have, wherever it stands.
func TestSizes(t *testing.T) {
	nops := func(n int) []api.Instr {
		return append(make([]api.Instr, max(n-1, 0)), back)[:n]
	}
	for _, k := range []struct {
		what   string
		change func(f *api.Func)
		right  bool
	}{
		{"no instruction", func(f *api.Func) { f.Code = nops(0) }, false},
		{"none", func(f *api.Func) { f.Code = nil }, false},
		{"one instruction", func(f *api.Func) { f.Code = nops(1) }, true},
		{"MaxCode - 1 instructions", func(f *api.Func) { f.Code = nops(api.MaxCode - 1) }, true},
		{"MaxCode instructions", func(f *api.Func) { f.Code = nops(api.MaxCode) }, true},
		{"one more", func(f *api.Func) { f.Code = nops(api.MaxCode + 1) }, false},
		{"no constant", func(f *api.Func) { f.Consts = nil }, true},
		{"MaxConsts constants", func(f *api.Func) { f.Consts = make([]api.Const, api.MaxConsts) }, true},
		{"one more constant", func(f *api.Func) { f.Consts = make([]api.Const, api.MaxConsts+1) }, false},
		{"no register, and none is asked for", func(f *api.Func) { f.Regs, f.Code = 0, []api.Instr{{Op: api.OpJump}} }, true},
		{"no register, and one is asked for", func(f *api.Func) { f.Regs = 0 }, false},
		{"a register", func(f *api.Func) { f.Regs = 1 }, true},
		{"MaxRegs registers", func(f *api.Func) { f.Regs = api.MaxRegs }, true},
		{"one more register", func(f *api.Func) { f.Regs = api.MaxRegs + 1 }, false},
		{"very many registers", func(f *api.Func) { f.Regs = math.MaxInt }, false},
		{"fewer registers than none", func(f *api.Func) { f.Regs, f.Code = -1, []api.Instr{{Op: api.OpJump}} }, false},
		{"least registers", func(f *api.Func) { f.Regs, f.Code = math.MinInt, []api.Instr{{Op: api.OpJump}} }, false},
		{"parameters below none", func(f *api.Func) { f.Params = -1 }, false},
		{"least parameters", func(f *api.Func) { f.Params = math.MinInt }, false},
		{"no name and texts that are long", func(f *api.Func) { f.Consts = []api.Const{{IsText: true, Text: string(make([]byte, api.MaxText+1))}} }, true},
	} {
		for at := range 2 {
			p := api.Program{Funcs: append(one(back).Funcs, one(back).Funcs...)}
			k.change(&p.Funcs[at])
			checks(t, fmt.Sprintf("%s, in function %d", k.what, at), p, k.right)
		}
	}
}

// P8.2: 0 to Regs parameters.
func TestParams(t *testing.T) {
	for _, regs := range []int{1, 2, 7, api.MaxRegs} {
		for _, params := range []int{-1, 0, 1, regs - 1, regs, regs + 1, math.MaxInt} {
			p := api.Program{Funcs: append(one(back).Funcs, api.Func{Regs: regs, Params: params, Code: []api.Instr{back}})}
			checks(t, fmt.Sprintf("%d registers, %d parameters", regs, params), p, params >= 0 && params <= regs)
		}
	}
}

// P8.2: each letter of a shape, at its edges: the function has 6 registers, 3 constants (the second is a text), 2 that it takes along, 5 instructions; there are 4 functions.
func TestLetters(t *testing.T) {
	right := map[byte][]int{'w': {0, 1, 5}, 'r': {0, 1, 5}, 'k': {0, 1, 2}, 'x': {1}, 's': {0, 1, 2, 3, 4}, 'f': {1, 2, 3}, 'c': {0, 1}, 'b': {0, 1, 12, 13}, 't': {0, 1, 4}, 'h': {0, 1}, 'n': {0, 1, 2, 3, 4}, '-': {0}}
	wrong := map[byte][]int{'w': {-1, 6}, 'r': {-1, 6}, 'k': {-1, 3}, 'x': {-1, 0, 2, 3}, 's': {-1, 5}, 'f': {-1, 0, 4}, 'c': {-1, 2}, 'b': {-1, 14}, 't': {-1, 5}, 'h': {-1, 2}, 'n': {-1, 5}, '-': {-1, 1}}
	far := []int{math.MinInt, math.MinInt + 1, -1 << 32, 1 << 32, math.MaxInt - 1, math.MaxInt}
	for op, shape := range chapter {
		plain := [3]int{}
		for i := range 3 {
			plain[i] = right[shape[i]][0]
		}
		for i := range 3 {
			for _, v := range right[shape[i]] {
				operandIs(t, op, plain, i, v, shape[2] != 'n' || i != 1 || v < 5)
			}
			for _, v := range append(far, wrong[shape[i]]...) {
				operandIs(t, op, plain, i, v, false)
			}
		}
	}
}

func operandIs(t *testing.T, op int, operands [3]int, i, v int, right bool) {
	t.Helper()
	operands[i] = v
	in := api.Instr{Op: op, A: operands[0], B: operands[1], C: operands[2]}
	for at := range 4 {
		f := api.Func{Regs: 6, Generator: true, Consts: []api.Const{{}, {IsText: true}, {Bits: 7, Text: "b"}}, Captures: make([]api.Capture, 2), Code: []api.Instr{{}, {}, {}, {}, back}}
		f.Code[at] = in
		p := api.Program{Funcs: []api.Func{one(back).Funcs[0], one(back).Funcs[0], f, one(back).Funcs[0]}}
		checks(t, fmt.Sprintf("%+v at %d", in, at), p, right)
	}
}

// P8.2: what is no Op stands nowhere.
func TestNoOp(t *testing.T) {
	for op := -3; op <= 66; op++ {
		if op < 0 || op > 62 {
			checks(t, fmt.Sprint("op ", op), one(api.Instr{Op: op}, back), false)
			checks(t, fmt.Sprint("op ", op, " at the end"), one(api.Instr{Op: op}), false)
		}
	}
	checks(t, "op 0", one(api.Instr{Op: 0}, back), true)
	checks(t, "op 62", one(api.Instr{Op: 62}, back), true)
}

// P8.2: of OpCall and OpNew the register B + 1 + n must be there.
func TestArguments(t *testing.T) {
	for _, op := range []int{api.OpCall, api.OpNew} {
		for regs := 1; regs <= 6; regs++ {
			for b := -1; b <= regs; b++ {
				for n := -1; n <= regs+1; n++ {
					p := one(api.Instr{Op: op, B: b, C: n}, back)
					p.Funcs[0].Regs = regs
					checks(t, fmt.Sprintf("op %d, %d registers, B %d, C %d", op, regs, b, n), p, b >= 0 && n >= 0 && b+1+n <= regs-1)
				}
			}
			for _, n := range []int{math.MaxInt, math.MaxInt - 1, math.MaxInt - regs, math.MinInt} {
				for b := range regs {
					p := one(api.Instr{Op: op, B: b, C: n}, back)
					p.Funcs[0].Regs = regs
					checks(t, fmt.Sprintf("op %d, %d registers, B %d, C %d", op, regs, b, n), p, false)
				}
			}
		}
	}
}

// P8.2: constants that are texts, and those that are not (whatever else is in them).
func TestTexts(t *testing.T) {
	for _, in := range []api.Instr{{Op: api.OpHole, B: 1}, {Op: api.OpGetNamed, C: 1}, {Op: api.OpSetNamed, B: 1}} {
		for _, c := range []api.Const{{IsText: true, Text: "x"}, {IsText: true}, {IsText: true, Bits: 3}, {}, {Text: "x"}, {Bits: 5}} {
			p := one(in, back)
			p.Funcs[0].Consts[1] = c
			checks(t, fmt.Sprintf("%+v of %+v", in, c), p, c.IsText)
		}
	}
}

// P8.2: operands are of the function in which they stand, not of another.
func TestOfThatFunction(t *testing.T) {
	for _, k := range []struct {
		what string
		in   api.Instr
	}{
		{"a register", api.Instr{Op: api.OpThis, A: 1}},
		{"a constant", api.Instr{Op: api.OpConst}},
		{"a text", api.Instr{Op: api.OpHole}},
		{"what is taken along", api.Instr{Op: api.OpFree}},
		{"a place", api.Instr{Op: api.OpJumpIf, B: 2}},
		{"a yield", api.Instr{Op: api.OpYield}},
	} {
		poor := api.Func{Regs: 1, Code: []api.Instr{{}, back}}
		rich := api.Func{Regs: 2, Code: []api.Instr{{}, {}, back}, Consts: []api.Const{{IsText: true}}, Captures: []api.Capture{{}}, Generator: true}
		p := api.Program{Funcs: []api.Func{one(back).Funcs[0], poor, rich}}
		p.Funcs[2].Code[0] = k.in
		checks(t, k.what+" that is there", p, true)
		p.Funcs[2].Code[0], p.Funcs[1].Code[0] = api.Instr{}, k.in
		checks(t, k.what+" of another", p, false)
	}
}

// P8.2: OpYield in a Generator alone.
func TestYield(t *testing.T) {
	for _, generator := range []bool{false, true} {
		p := api.Program{Funcs: append(one(back).Funcs, api.Func{Regs: 2, Generator: generator, Code: []api.Instr{{Op: api.OpYield, A: 0, B: 1}, back}})}
		checks(t, fmt.Sprint("generator: ", generator), p, generator)
		p.Funcs[1].Code[0].B = 2
		checks(t, fmt.Sprint("a register beyond; generator: ", generator), p, false)
	}
}

// P8.2: which Ops may be the last.
func TestLast(t *testing.T) {
	for op, shape := range chapter {
		in := api.Instr{Op: op}
		if shape[1] == 'f' {
			in.B = 1
		}
		f := api.Func{Regs: 4, Generator: true, Consts: []api.Const{{IsText: true}}, Captures: make([]api.Capture, 1), Code: []api.Instr{{}, in}}
		p := api.Program{Funcs: append(one(back).Funcs, f)}
		checks(t, fmt.Sprint("the last is ", op), p, op == api.OpReturn || op == api.OpThrow || op == api.OpJump)
		p.Funcs[1].Code = []api.Instr{in, back}
		checks(t, fmt.Sprint("the last but one is ", op), p, true)
	}
}

// P8.2: Handlers are stretches of the code; there are 3 instructions.
func TestHandlers(t *testing.T) {
	for from := -2; from <= 4; from++ {
		for to := -2; to <= 5; to++ {
			for target := -2; target <= 4; target++ {
				h := api.Handler{From: from, To: to, Target: target}
				right := 0 <= from && from < to && to <= 3 && 0 <= target && target < 3
				p := one(api.Instr{}, api.Instr{}, back)
				p.Funcs[0].Handlers = []api.Handler{h}
				checks(t, fmt.Sprintf("%+v", h), p, right)
				p.Funcs[0].Handlers = []api.Handler{{From: 0, To: 3, Target: 2}, h}
				checks(t, fmt.Sprintf("%+v, the second", h), p, right)
				p.Funcs[0].Handlers = []api.Handler{h, {From: 0, To: 3, Target: 2}}
				checks(t, fmt.Sprintf("%+v, the first of two", h), p, right)
			}
		}
	}
	for _, h := range []api.Handler{{From: math.MinInt, To: 1}, {To: math.MaxInt}, {To: 1, Target: math.MaxInt}, {To: 1, Target: math.MinInt}, {From: math.MaxInt, To: math.MinInt}} {
		p := one(api.Instr{}, api.Instr{}, back)
		p.Funcs[0].Handlers = []api.Handler{h}
		checks(t, fmt.Sprintf("%+v", h), p, false)
	}
	p := one(api.Instr{}, back)
	p.Funcs[0].Handlers = slices.Repeat([]api.Handler{{From: 0, To: 2, Target: 0}}, 1000)
	checks(t, "many", p, true)
}

// P8.2: what a function that is made takes along its maker must have: 3 registers, and, of those that it took along, 2.
func TestCaptures(t *testing.T) {
	for _, free := range []bool{false, true} {
		for _, index := range []int{math.MinInt, -1, 0, 1, 2, 3, 4, math.MaxInt} {
			c := api.Capture{Free: free, Index: index}
			right := index >= 0 && (index < 2 || index == 2 && !free)
			for _, l := range [][]api.Capture{{c}, {{}, c}, {c, {}}, {{Free: true, Index: 1}, c, {Index: 2}}} {
				maker := api.Func{Regs: 3, Captures: make([]api.Capture, 2), Code: []api.Instr{{Op: api.OpClosure, A: 1, B: 2}, back}}
				made := api.Func{Regs: 9, Captures: l, Code: []api.Instr{{Op: api.OpFree, B: len(l) - 1}, back}}
				p := api.Program{Funcs: []api.Func{one(back).Funcs[0], maker, made}}
				checks(t, fmt.Sprintf("%+v", l), p, right)
				p.Funcs[1].Code[0] = api.Instr{}
				checks(t, fmt.Sprintf("%+v, and nobody makes it", l), p, true)
			}
		}
	}
}

// P8.2: each maker must have it, wherever it makes it; a function may make itself.
func TestMakers(t *testing.T) {
	p := three()
	checks(t, "three functions", p, true)
	q := clone(p)
	q.Funcs[0].Code[1].B = 2
	checks(t, "the program takes nothing along", q, false)
	q = clone(p)
	q.Funcs[2].Code[0] = api.Instr{Op: api.OpClosure, B: 1}
	checks(t, "the second maker has too few registers", q, false)
	q.Funcs[2].Regs = 4
	checks(t, "the second maker has enough", q, true)
	q = clone(p)
	q.Funcs[2].Code[0] = api.Instr{Op: api.OpClosure, B: 2}
	checks(t, "it makes itself, without the register", q, false)
	q.Funcs[2].Regs = 3
	checks(t, "it makes itself", q, true)
	q = clone(p)
	q.Funcs[1].Captures = append(q.Funcs[1].Captures, api.Capture{Free: true})
	checks(t, "a free one of the program", q, false)
}

// P8.2: it ends soon, however often a function that takes much along is made.
func TestManyCaptures(t *testing.T) {
	code := append(slices.Repeat([]api.Instr{{Op: api.OpClosure, B: 1}}, api.MaxCode-1), back)
	p := api.Program{Funcs: []api.Func{{Regs: 1, Code: code}, {Regs: 1, Code: []api.Instr{back}, Captures: make([]api.Capture, 1<<20)}}}
	checks(t, "many", p, true)
	p.Funcs[1].Captures[1<<20-1].Index = 1
	checks(t, "the last is none", p, false)
}

// R4, R6: a program that is asked stays as it was, and is told the same again.
func TestCheckKeeps(t *testing.T) {
	p := three()
	q := clone(p)
	for range 3 {
		checks(t, "three", p, true)
		if fmt.Sprint(p) != fmt.Sprint(q) {
			t.Fatal("it was changed")
		}
	}
	if code.Shape(21) != code.Shape(api.OpAdd) {
		t.Error("Shape")
	}
}
