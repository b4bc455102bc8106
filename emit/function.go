package emit

import "brazier/api"

// function is one that is being made. Registers are taken and given back like a pile: those of its parameters lie at the bottom, then, block within block, those of variables, and on top those that an expression needs for a while.
type function struct {
	*emitter
	around *function
	told   api.Func
	consts map[api.Const]int
	frees  map[int]int // of variables that were taken along: which one it is of those
	top    int         // how many registers are taken
	frames []*frame    // what stands around, the outermost first
}

// emit tells the place of what it adds.
func (f *function) emit(op int, operands ...int) int {
	place := f.here()
	if place == api.MaxCode {
		panic(tooMuch{})
	}
	var o [3]int
	copy(o[:], operands)
	f.told.Code = append(f.told.Code, api.Instr{Op: op, A: o[0], B: o[1], C: o[2]})
	return place
}

// here is the place of the next instruction.
func (f *function) here() int { return len(f.told.Code) }

// aim lets jumps go to a place.
func (f *function) aim(to int, jumps ...int) {
	for _, place := range jumps {
		i := &f.told.Code[place]
		if i.Op == api.OpJump {
			i.A = to
		} else {
			i.B = to
		}
	}
}

// take tells the first of so many more registers.
func (f *function) take(many int) int {
	first := f.top
	f.top += many
	f.needs(f.top)
	return first
}

// temp is one more register.
func (f *function) temp() int { return f.take(1) }

// needs says that there must be so many registers.
func (f *function) needs(many int) {
	if many > api.MaxRegs {
		panic(tooMuch{})
	}
	f.told.Regs = max(f.told.Regs, many)
}

// constant tells the place of a constant, which is there once.
func (f *function) constant(c api.Const) int {
	place, ok := f.consts[c]
	if ok {
		return place
	}
	place = len(f.told.Consts)
	if place == api.MaxConsts {
		panic(tooMuch{})
	}
	f.consts[c] = place
	f.told.Consts = append(f.told.Consts, c)
	return place
}

func (f *function) text(s string) int {
	return f.constant(api.Const{IsText: true, Text: s})
}

func (f *function) number(bits uint64) int {
	return f.constant(api.Const{Bits: bits})
}

// move spares a move to where the value is.
func (f *function) move(to, from int) {
	if to != from {
		f.emit(api.OpMove, to, from)
	}
}
