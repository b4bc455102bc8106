package emit

import "brazier/api"

// signs are the instructions of the signs that stand between two values.
func signs() map[string]int {
	return map[string]int{
		"+": api.OpAdd, "-": api.OpSub, "*": api.OpMul, "/": api.OpDiv, "%": api.OpRem,
		"<<": api.OpShl, ">>": api.OpShr, ">>>": api.OpUshr,
		"&": api.OpAnd, "|": api.OpOr, "^": api.OpXor,
		"<": api.OpLess, "<=": api.OpLessEq, ">": api.OpGreater, ">=": api.OpGreaterEq,
		"==": api.OpEqual, "!=": api.OpNotEqual, "===": api.OpSame, "!==": api.OpNotSame,
		"in": api.OpIn, "instanceof": api.OpInstance,
	}
}

// operate does what a sign says with the registers a and b; the answer is in a.
func (f *function) operate(sign string, a, b int) {
	op := f.signs[sign]
	switch op {
	case api.OpEqual, api.OpNotEqual:
		f.emit(api.OpPrimIf, a, a, b)
		f.emit(api.OpPrimIf, b, b, a)
	case api.OpIn:
		f.makeKey(a)
	case api.OpSame, api.OpNotSame, api.OpInstance:
		// Objects are taken as they are.
	default:
		f.emit(api.OpPrim, a, a)
		f.emit(api.OpPrim, b, b)
	}
	f.emit(op, a, a, b)
}

// makeKey makes a register's value a key.
func (f *function) makeKey(r int) {
	f.emit(api.OpPrim, r, r, 1)
	f.emit(api.OpText, r, r)
}

// makeNumber makes a register's value a number.
func (f *function) makeNumber(r int) {
	f.emit(api.OpPrim, r, r)
	f.emit(api.OpNum, r, r)
}
