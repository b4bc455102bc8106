package code_test

import (
	"fmt"

	"brazier/api"
)

// anyProgram: one that may be, with 1 to 4 functions.
func anyProgram(c *chance) api.Program {
	p := api.Program{Funcs: make([]api.Func, 1+c.below(4))}
	for i := range p.Funcs {
		f := &p.Funcs[i]
		f.Regs = 2 + c.below(5)
		for range c.below(4) {
			f.Consts = append(f.Consts, api.Const{IsText: c.below(2) == 0, Bits: uint64(c.below(9))})
		}
		if i > 0 {
			f.Params, f.Generator = c.below(f.Regs+1), c.below(2) == 0
			for range c.below(3) {
				f.Captures = append(f.Captures, api.Capture{Free: c.below(4) == 0, Index: c.below(3)})
			}
		}
	}
	for i := range p.Funcs {
		fill(c, &p, i)
	}
	return p
}

// fill: a function's code and Handlers.
func fill(c *chance, p *api.Program, at int) {
	f := &p.Funcs[at]
	n := 1 + c.below(8)
	f.Code = make([]api.Instr, n)
	for i := range f.Code {
		for range 50 {
			f.Code[i] = guess(c, *p, *f, n)
			if operandsAmiss(*p, *f, f.Code[i]) == "" {
				break
			}
			f.Code[i] = api.Instr{}
		}
	}
	f.Code[n-1] = []api.Instr{{Op: 55, A: c.below(f.Regs)}, {Op: 56, A: c.below(f.Regs)}, {Op: 57, A: c.below(n)}}[c.below(3)]
	for range c.below(3) {
		from := c.below(n)
		f.Handlers = append(f.Handlers, api.Handler{From: from, To: from + 1 + c.below(n-from), Target: c.below(n)})
	}
}

// guess: an instruction whose operands are near what they must be.
func guess(c *chance, p api.Program, f api.Func, n int) api.Instr {
	i := api.Instr{Op: c.below(63)}
	for k, o := range []*int{&i.A, &i.B, &i.C} {
		switch chapter[i.Op][k] {
		case 'w', 'r':
			*o = c.below(f.Regs)
		case 't':
			*o = c.below(n)
		case 'b':
			*o = c.below(14)
		case '-':
		default:
			*o = c.below(5)
		}
	}
	return i
}

// spoil: one thing of a program is changed: to what may be, or may not.
func spoil(c *chance, p *api.Program) {
	if c.below(30) == 0 {
		p.Funcs = p.Funcs[:c.below(len(p.Funcs)+1)]
	}
	if len(p.Funcs) == 0 {
		return
	}
	f := &p.Funcs[c.below(len(p.Funcs))]
	small := c.below(10) - 2
	switch c.below(10) {
	case 0:
		f.Regs = small
	case 1:
		f.Params = small
	case 2:
		f.Generator = !f.Generator
	case 3:
		f.Captures = append(f.Captures, api.Capture{Free: c.below(2) == 0, Index: small})
	case 4:
		f.Handlers = append(f.Handlers, api.Handler{From: c.below(10) - 2, To: small, Target: c.below(10) - 2})
	case 5:
		f.Code = f.Code[:c.below(len(f.Code)+1)]
	case 6:
		f.Consts = f.Consts[:c.below(len(f.Consts)+1)]
	default:
		if len(f.Code) == 0 {
			return
		}
		i := &f.Code[c.below(len(f.Code))]
		*[]*int{&i.Op, &i.A, &i.B, &i.C}[c.below(4)] = small
	}
}

// amiss: the first clause of the chapter that a program breaks; of one that may be: nothing.
func amiss(p api.Program) string {
	if len(p.Funcs) == 0 || len(p.Funcs) > 200 {
		return "functions"
	}
	if f := p.Funcs[0]; f.Params != 0 || f.Generator || len(f.Captures) > 0 {
		return "the first"
	}
	for i, f := range p.Funcs {
		if why := functionAmiss(p, f); why != "" {
			return fmt.Sprint(i, ": ", why)
		}
	}
	return ""
}

func functionAmiss(p api.Program, f api.Func) string {
	n := len(f.Code)
	switch {
	case n == 0 || n > 65536:
		return "how many instructions"
	case len(f.Consts) > 65536:
		return "how many constants"
	case f.Regs < 0 || f.Regs > 400:
		return "registers"
	case f.Params < 0 || f.Params > f.Regs:
		return "parameters"
	}
	switch f.Code[n-1].Op {
	case api.OpReturn, api.OpThrow, api.OpJump:
	default:
		return "the last"
	}
	for _, h := range f.Handlers {
		if !(0 <= h.From && h.From < h.To && h.To <= n) || h.Target < 0 || h.Target > n-1 {
			return "a Handler"
		}
	}
	for _, i := range f.Code {
		if i.Op < 0 || i.Op > 62 {
			return "no Op"
		}
		if why := operandsAmiss(p, f, i); why != "" {
			return why
		}
	}
	return ""
}

func operandsAmiss(p api.Program, f api.Func, i api.Instr) string {
	most := [128]int{'w': f.Regs - 1, 'r': f.Regs - 1, 'k': len(f.Consts) - 1, 'x': len(f.Consts) - 1, 's': 4, 'f': len(p.Funcs) - 1, 'c': len(f.Captures) - 1, 'b': 13, 't': len(f.Code) - 1, 'h': 1, 'n': 1 << 40, '-': 0}
	for k, v := range []int{i.A, i.B, i.C} {
		letter := chapter[i.Op][k]
		if v < 0 || v > most[letter] {
			return "operand " + string(letter)
		}
		if letter == 'f' && v == 0 || letter == 'x' && !f.Consts[v].IsText || letter == 'n' && i.B+1+v >= f.Regs {
			return "operand " + string(letter)
		}
	}
	if i.Op == api.OpYield && !f.Generator {
		return "a yield"
	}
	if i.Op != api.OpClosure {
		return ""
	}
	for _, c := range p.Funcs[i.B].Captures {
		there := f.Regs
		if c.Free {
			there = len(f.Captures)
		}
		if c.Index < 0 || c.Index >= there {
			return "what is taken along"
		}
	}
	return ""
}
