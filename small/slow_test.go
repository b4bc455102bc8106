package small_test

import (
	"testing"

	"brazier/api"
	"brazier/word"
)

// P4.1

func TestSlowReckons(t *testing.T) {
	for _, c := range []struct {
		op         int
		a, b, want api.Word
	}{
		{api.OpAdd, i(2), i(3), i(5)},
		{api.OpAdd, i(high), i(1), 0x41e0000000000000},
		{api.OpAdd, i(low), i(-1), 0xc1e0000000200000},
		{api.OpAdd, num(high + 1), i(-1), i(high)},
		{api.OpAdd, num(0.5), num(0.5), i(1)},
		{api.OpAdd, num(0.1), num(0.2), 0x3fd3333333333334},
		{api.OpAdd, neg0, neg0, neg0},
		{api.OpAdd, neg0, i(0), i(0)},
		{api.OpAdd, inf, ninf, nan},
		{api.OpSub, i(2), i(3), i(-1)},
		{api.OpSub, i(low), i(1), 0xc1e0000000200000},
		{api.OpSub, num(low - 1), i(-1), i(low)},
		{api.OpSub, neg0, i(0), neg0},
		{api.OpSub, inf, inf, nan},
		{api.OpMul, i(0), i(-1), neg0},
		{api.OpMul, i(-1), i(0), neg0},
		{api.OpMul, neg0, i(-1), i(0)},
		{api.OpMul, i(65536), i(65536), 0x41f0000000000000},
		{api.OpMul, i(0), inf, nan},
		{api.OpDiv, i(7), i(2), num(3.5)},
		{api.OpDiv, i(1), i(0), inf},
		{api.OpDiv, i(-1), i(0), ninf},
		{api.OpDiv, i(1), neg0, ninf},
		{api.OpDiv, i(0), i(0), nan},
		{api.OpDiv, i(0), i(-1), neg0},
		{api.OpDiv, i(low), i(-1), 0x41e0000000000000},
		{api.OpDiv, i(3), inf, i(0)},
		{api.OpRem, i(7), i(-2), i(1)},
		{api.OpRem, i(-7), i(2), i(-1)},
		{api.OpRem, i(-4), i(2), neg0},
		{api.OpRem, i(low), i(-1), neg0},
		{api.OpRem, i(5), i(0), nan},
		{api.OpRem, num(5.5), i(2), num(1.5)},
		{api.OpRem, i(5), ninf, i(5)},
		{api.OpRem, inf, i(5), nan},
	} {
		slowIs(t, c.op, c.a, c.b, c.want)
	}
}

func TestSlowOfBits(t *testing.T) {
	for _, c := range []struct {
		op         int
		a, b, want api.Word
	}{
		{api.OpShl, i(1), i(31), i(low)},
		{api.OpShl, i(1), i(32), i(1)},
		{api.OpShl, i(1), i(33), i(2)},
		{api.OpShl, i(1), i(-1), i(low)},
		{api.OpShl, i(3), i(31), i(low)},
		{api.OpShl, i(1), num(1<<32 + 4.5), i(16)},
		{api.OpShl, i(low), i(1), i(0)},
		{api.OpShr, i(-5), i(1), i(-3)},
		{api.OpShr, i(low), i(31), i(-1)},
		{api.OpShr, i(low), i(-1), i(-1)},
		{api.OpShr, num(1<<32 - 1), i(0), i(-1)},
		{api.OpUshr, i(-1), i(0), num(1<<32 - 1)},
		{api.OpUshr, i(-1), i(32), num(1<<32 - 1)},
		{api.OpUshr, i(-1), i(1), i(high)},
		{api.OpUshr, i(-1), i(-1), i(1)},
		{api.OpUshr, i(low), i(0), num(1 << 31)},
		{api.OpUshr, nan, i(3), i(0)},
		{api.OpAnd, i(12), i(10), i(8)},
		{api.OpAnd, i(-1), num(1<<31 + 3), i(low + 3)},
		{api.OpAnd, inf, i(-1), i(0)},
		{api.OpOr, i(12), i(10), i(14)},
		{api.OpOr, num(1<<32 + 1.5), i(0), i(1)},
		{api.OpOr, num(-1.5), i(0), i(-1)},
		{api.OpOr, neg0, neg0, i(0)},
		{api.OpOr, num(1<<32 - 1), i(0), i(-1)},
		{api.OpXor, i(12), i(10), i(6)},
		{api.OpXor, i(-1), i(high), i(low)},
		{api.OpXor, nan, ninf, i(0)},
	} {
		slowIs(t, c.op, c.a, c.b, c.want)
	}
}

func TestSlowTests(t *testing.T) {
	for _, c := range []struct {
		a, b                api.Word
		below, same, beyond bool
	}{
		{i(1), i(2), true, false, false},
		{i(2), i(2), false, true, false},
		{i(3), i(2), false, false, true},
		{i(low), i(high), true, false, false},
		{i(high), i(low), false, false, true},
		{neg0, i(0), false, true, false},
		{i(0), neg0, false, true, false},
		{num(0.5), i(1), true, false, false},
		{ninf, inf, true, false, false},
		{inf, inf, false, true, false},
		{inf, num(1e300), false, false, true},
		{nan, i(1), false, false, false},
		{i(1), nan, false, false, false},
		{nan, nan, false, false, false},
		{nan, inf, false, false, false},
	} {
		slowIs(t, api.OpLess, c.a, c.b, word.Bool(c.below))
		slowIs(t, api.OpLessEq, c.a, c.b, word.Bool(c.below || c.same))
		slowIs(t, api.OpGreater, c.a, c.b, word.Bool(c.beyond))
		slowIs(t, api.OpGreaterEq, c.a, c.b, word.Bool(c.beyond || c.same))
	}
}

func TestSlowAgainstFloats(t *testing.T) {
	eachNumbers(func(p, q float64) {
		for _, op := range operations() {
			slowIs(t, op, num(p), num(q), meant(op, p, q))
		}
	})
}

// One that is no number is enough, wherever it stands.
func TestSlowOfNoNumber(t *testing.T) {
	for _, op := range operations() {
		for _, w := range append(noNumbers(), notRight()...) {
			slowIs(t, op, w, i(1), word.Undefined)
			slowIs(t, op, i(1), w, word.Undefined)
			slowIs(t, op, num(0.5), w, word.Undefined)
			slowIs(t, op, w, nan, word.Undefined)
			slowIs(t, op, w, w, word.Undefined)
		}
	}
}

func TestSlowOfNoOperation(t *testing.T) {
	for _, op := range noOperations() {
		slowIs(t, op, i(1), i(2), word.Undefined)
		slowIs(t, op, num(0.5), nan, word.Undefined)
		slowIs(t, op, word.True, i(1), word.Undefined)
	}
}
