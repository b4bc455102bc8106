package soft

// Add is the sum of both.
func Add(a, b uint64) uint64 {
	p, q := split(a), split(b)
	switch {
	case either(p, q, kindNaN):
		return notANumber
	case p.kind == kindInfinite && q.kind == kindInfinite && p.sign != q.sign:
		return notANumber
	case p.kind == kindInfinite:
		return a
	case q.kind == kindInfinite:
		return b
	case p.kind == kindZero && q.kind == kindZero:
		return a & b
	case p.kind == kindZero:
		return b
	case q.kind == kindZero:
		return a
	}
	return sum(p, q)
}

// Sub is what is left of a without b.
func Sub(a, b uint64) uint64 {
	return Add(a, b^signBit)
}

// Neg has the other sign.
func Neg(a uint64) uint64 {
	if IsNaN(a) {
		return notANumber
	}
	return a ^ signBit
}

// sum is that of two finite ones.
func sum(p, q parts) uint64 {
	if p.exp < q.exp {
		p, q = q, p
	}
	// Bits are lost only if the exponents are more than guard apart; p.man then has its highest bit, so that even a difference keeps 62.
	x, y := p.man<<guard, shrink(q.man<<guard, p.exp-q.exp)
	exp := p.exp - guard
	switch {
	case p.sign == q.sign:
		return round(p.sign, x+y, exp)
	case x == y:
		return 0
	case x < y:
		return round(q.sign, y-x, exp)
	}
	return round(p.sign, x-y, exp)
}

// shrink halves man so many times; what is lost stays marked.
func shrink(man uint64, times int) uint64 {
	kept := man >> times
	return sticky(kept, kept<<times != man)
}
