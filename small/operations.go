package small

import (
	"brazier/api"
	"brazier/soft"
)

// whole is what number is of two whole numbers of 32 bits, if it is whole as well.
// A whole number can't tell 0 from -0: what would be -0 is left to number.
func whole(op int, x, y int64) (int64, bool) {
	switch op {
	case api.OpAdd:
		return x + y, true
	case api.OpSub:
		return x - y, true
	case api.OpMul:
		n := x * y
		return n, n != 0 || x >= 0 && y >= 0
	case api.OpDiv:
		if y == 0 || x%y != 0 {
			return 0, false
		}
		return x / y, x != 0 || y > 0
	default:
		if y == 0 {
			return 0, false
		}
		n := x % y
		return n, n != 0 || x >= 0
	}
}

// number is what OpAdd to OpRem make of two binary64s.
func number(op int, p, q uint64) uint64 {
	switch op {
	case api.OpAdd:
		return soft.Add(p, q)
	case api.OpSub:
		return soft.Sub(p, q)
	case api.OpMul:
		return soft.Mul(p, q)
	case api.OpDiv:
		return soft.Div(p, q)
	default:
		return soft.Rem(p, q)
	}
}

// bits is what OpShl to OpXor make of 32 bits and 32 others.
// It has 64, as OpUshr alone tells a number without a sign.
func bits(op int, x, y int32) int64 {
	k := y & 31
	switch op {
	case api.OpShl:
		return int64(x << k)
	case api.OpShr:
		return int64(x >> k)
	case api.OpUshr:
		return int64(uint32(x) >> k)
	case api.OpAnd:
		return int64(x & y)
	case api.OpOr:
		return int64(x | y)
	default:
		return int64(x ^ y)
	}
}

// holds tells whether one of OpLess to OpGreaterEq holds of two that lie so to each other.
// Of NaN none of the three is so, and no test holds.
func holds(op int, below, same, above bool) bool {
	switch op {
	case api.OpLessEq:
		if same {
			return true
		}
		fallthrough
	case api.OpLess:
		return below
	case api.OpGreaterEq:
		if same {
			return true
		}
		fallthrough
	default:
		return above
	}
}
