package soft

import "math/bits"

// Mul is the product of both.
func Mul(a, b uint64) uint64 {
	p, q := split(a), split(b)
	sign := p.sign ^ q.sign
	switch {
	case either(p, q, kindNaN), either(p, q, kindZero) && either(p, q, kindInfinite):
		return notANumber
	case either(p, q, kindInfinite):
		return sign | infinite
	case either(p, q, kindZero):
		return sign
	}
	p, q = p.scaled(), q.scaled()
	high, low := bits.Mul64(p.man, q.man)
	return round(sign, sticky(high, low != 0), p.exp+q.exp+64)
}

// Div is a divided by b.
func Div(a, b uint64) uint64 {
	p, q := split(a), split(b)
	sign := p.sign ^ q.sign
	switch {
	case either(p, q, kindNaN), p.kind == q.kind && p.kind != kindFinite:
		return notANumber
	case p.kind == kindInfinite || q.kind == kindZero:
		return sign | infinite
	case p.kind == kindZero || q.kind == kindInfinite:
		return sign
	}
	p, q = p.scaled(), q.scaled()
	// Half of p.man is below q.man, as Div64 asks for.
	n, left := bits.Div64(p.man>>1, p.man<<63, q.man)
	return round(sign, sticky(n, left != 0), p.exp-q.exp-63)
}

// Rem is what is left of a divided by b.
func Rem(a, b uint64) uint64 {
	p, q := split(a), split(b)
	switch {
	case either(p, q, kindNaN), p.kind == kindInfinite, q.kind == kindZero:
		return notANumber
	case p.kind == kindZero, q.kind == kindInfinite:
		return a
	case p.exp < q.exp:
		return a // q.man has its highest bit then, so a is the smaller one
	}
	return round(p.sign, remainder(p.man, p.exp-q.exp, q.man), q.exp)
}

// remainder is man times 2^times modulo by, which has at most 53 bits: so there is room for spare bits at once.
func remainder(man uint64, times int, by uint64) uint64 {
	left := man % by
	for times > 0 {
		n := min(times, spare)
		left = (left << n) % by
		times -= n
	}
	return left
}
