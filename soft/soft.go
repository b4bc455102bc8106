// Package soft is layer 1: binary64 numbers by their bits: see shared/doc/01-soft.md.
package soft

import "math/bits"

const (
	signBit      = 1 << 63
	fractionBits = 52
	fractionMask = 1<<fractionBits - 1
	exponentMask = 1<<11 - 1
	infinite     = exponentMask << fractionBits
	notANumber   = infinite | 1<<(fractionBits-1)
	one          = 1023 << fractionBits

	lowest  = -1074 // the last bit of the smallest numbers is 2^lowest
	highest = 960   // a man of 64 bits times 2^highest may still be finite
	spare   = 11    // bits of a word beyond those of a number
	guard   = 10    // bits kept below a sum's parts, with room for a carry
)

// kind tells numbers apart by how they are worked with.
type kind int

const (
	kindZero kind = iota
	kindFinite
	kindInfinite
	kindNaN
)

// parts is a number taken apart: if it is finite, man times 2^exp in size.
type parts struct {
	kind kind
	sign uint64 // signBit, or 0
	man  uint64
	exp  int
}

func split(a uint64) parts {
	p := parts{sign: a & signBit, man: a & fractionMask}
	e := int(a >> fractionBits & exponentMask)
	switch {
	case e == exponentMask && p.man != 0:
		p.kind = kindNaN
	case e == exponentMask:
		p.kind = kindInfinite
	case e == 0 && p.man == 0:
		p.kind = kindZero
	case e == 0:
		p.kind, p.exp = kindFinite, lowest
	default:
		p.kind, p.exp = kindFinite, lowest+e-1
		p.man |= 1 << fractionBits
	}
	return p
}

func either(p, q parts, k kind) bool {
	return p.kind == k || q.kind == k
}

// scaled has the highest bit of man set, so that no product or quotient is short of bits.
func (p parts) scaled() parts {
	n := bits.LeadingZeros64(p.man)
	p.man <<= n
	p.exp -= n
	return p
}

// sticky marks in the lowest bit that something below it is not 0.
// Of a man of 62 bits or more that bit is never the one that decides a tie, so all is rounded as if nothing was lost.
func sticky(man uint64, lost bool) uint64 {
	if lost {
		return man | 1
	}
	return man
}

// round is man times 2^exp as a number; exp must be far from an int's bounds.
func round(sign, man uint64, exp int) uint64 {
	if man == 0 {
		return sign
	}
	p := parts{man: man, exp: exp}.scaled()
	drop := max(spare, lowest-p.exp)
	switch {
	case p.exp > highest:
		return sign | infinite
	case drop > 64:
		return sign
	}
	kept, rest := p.man>>drop, p.man<<(64-drop)
	if rest > 1<<63 || rest == 1<<63 && kept&1 == 1 {
		kept++
	}
	// The sum carries kept's bit 2^52, and what rounding carries beyond it, into the exponent: up to infinity.
	return sign | (uint64(p.exp+drop-lowest)<<fractionBits + kept)
}
