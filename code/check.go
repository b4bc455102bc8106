package code

import (
	"math"

	"brazier/api"
)

// first tells whether a function may be the program itself: nobody gives it arguments, sends it anything, or makes it.
func first(f api.Func) bool {
	return f.Params == 0 && !f.Generator && len(f.Captures) == 0
}

// sized tells whether a function keeps to the limits.
func sized(f api.Func) bool {
	return len(f.Code) >= 1 && len(f.Code) <= api.MaxCode &&
		len(f.Consts) <= api.MaxConsts &&
		f.Regs >= 0 && f.Regs <= api.MaxRegs &&
		within(f.Params, f.Regs+1)
}

// flows tells whether a function's code can't be left at its end, and its Handlers are of its code. There is an instruction at least.
func flows(f api.Func) bool {
	if goesOn(f.Code[len(f.Code)-1].Op) {
		return false
	}
	for _, h := range f.Handlers {
		if h.From < 0 || h.From >= h.To || h.To > len(f.Code) || !within(h.Target, len(f.Code)) {
			return false
		}
	}
	return true
}

// filled tells whether all instructions of a function have the operands that they must have.
func filled(f api.Func, taken []want) bool {
	for _, i := range f.Code {
		if !fits(f, i, len(taken)) {
			return false
		}
		if i.Op == api.OpYield && !f.Generator {
			return false
		}
		if i.Op == api.OpClosure && !taken[i.B].metBy(f) {
			return false
		}
	}
	return true
}

// fits tells whether an instruction's operands are what its shape says, in a function of a program of so many.
func fits(f api.Func, i api.Instr, funcs int) bool {
	shape := Shape(i.Op)
	if shape == "" {
		return false
	}
	for k, operand := range [3]int{i.A, i.B, i.C} {
		if !means(f, i, shape[k], operand, funcs) {
			return false
		}
	}
	return true
}

// means tells whether an operand is what its letter says. Those ahead of it are right: so nothing that is reckoned here can wrap round.
func means(f api.Func, i api.Instr, letter byte, operand, funcs int) bool {
	switch letter {
	case 'w', 'r':
		return within(operand, f.Regs)
	case 'k':
		return within(operand, len(f.Consts))
	case 'x':
		return within(operand, len(f.Consts)) && f.Consts[operand].IsText
	case 's':
		return within(operand, api.SmallHole+1)
	case 'f':
		return operand > 0 && operand < funcs
	case 'c':
		return within(operand, len(f.Captures))
	case 'b':
		return within(operand, api.Builtins)
	case 't':
		return within(operand, len(f.Code))
	case 'h':
		return within(operand, 2)
	case 'n':
		return within(operand, f.Regs-1-i.B)
	}
	return operand == 0
}

// within tells whether a number is one of the first so many, from 0 on.
func within(i, many int) bool {
	return i >= 0 && i < many
}

// want is what a function asks of its makers: the last register and the last of their own captures that it takes along (-1: none).
type want struct {
	register, free int
}

// wants are what all functions ask. They are reckoned once each: a function may be made at many places.
func wants(funcs []api.Func) []want {
	taken := make([]want, len(funcs))
	for i, f := range funcs {
		taken[i] = wanted(f.Captures)
	}
	return taken
}

func wanted(captures []api.Capture) want {
	w := want{-1, -1}
	for _, c := range captures {
		switch {
		case c.Index < 0:
			// No maker has it.
			return want{math.MaxInt, math.MaxInt}
		case c.Free:
			w.free = max(w.free, c.Index)
		default:
			w.register = max(w.register, c.Index)
		}
	}
	return w
}

// metBy tells whether a maker has what is asked.
func (w want) metBy(maker api.Func) bool {
	return w.register < maker.Regs && w.free < len(maker.Captures)
}
