package small_test

import (
	"testing"

	"brazier/api"
	"brazier/small"
	"brazier/word"
)

// P4.2

func TestFast(t *testing.T) {
	for _, c := range []struct {
		op         int
		a, b, want int32
	}{
		{api.OpAdd, 2, 3, 5},
		{api.OpAdd, high - 1, 1, high},
		{api.OpAdd, low + 1, -1, low},
		{api.OpAdd, -1, 1, 0},
		{api.OpSub, high, 0, high},
		{api.OpSub, -1, high, low},
		{api.OpSub, 5, 5, 0},
		{api.OpMul, 0, 0, 0},
		{api.OpMul, 0, 5, 0},
		{api.OpMul, -3, 4, -12},
		{api.OpMul, 46340, 46340, 2147395600},
		{api.OpMul, 65536, -32768, low},
		{api.OpDiv, 6, 3, 2},
		{api.OpDiv, 0, 3, 0},
		{api.OpDiv, -6, 3, -2},
		{api.OpDiv, low, 1, low},
		{api.OpDiv, high, -1, -high},
		{api.OpRem, 7, -2, 1},
		{api.OpRem, -7, 2, -1},
		{api.OpRem, 4, 2, 0},
		{api.OpRem, 0, -2, 0},
		{api.OpRem, low, high, -1},
		{api.OpShl, 1, 31, low},
		{api.OpShl, 1, 33, 2},
		{api.OpShl, 1, -31, 2},
		{api.OpShr, -5, 1, -3},
		{api.OpShr, -1, 63, -1},
		{api.OpUshr, -1, 1, high},
		{api.OpUshr, high, 0, high},
		{api.OpUshr, low, -1, 1},
		{api.OpAnd, -1, low, low},
		{api.OpOr, low, high, -1},
		{api.OpXor, 5, 3, 6},
	} {
		fastIs(t, c.op, i(c.a), i(c.b), i(c.want))
	}
}

func TestNotFast(t *testing.T) {
	for _, c := range []struct {
		op   int
		a, b int32
	}{
		{api.OpAdd, high, 1},
		{api.OpAdd, low, -1},
		{api.OpAdd, low, low},
		{api.OpSub, low, 1},
		{api.OpSub, 0, low},
		{api.OpMul, 0, -1},
		{api.OpMul, -1, 0},
		{api.OpMul, 46341, 46341},
		{api.OpMul, low, low},
		{api.OpMul, low, -1},
		{api.OpMul, 65536, 65536},
		{api.OpDiv, 7, 2},
		{api.OpDiv, 1, 0},
		{api.OpDiv, -1, 0},
		{api.OpDiv, 0, 0},
		{api.OpDiv, 0, -1},
		{api.OpDiv, low, -1},
		{api.OpDiv, 1, 2},
		{api.OpRem, -4, 2},
		{api.OpRem, -4, -2},
		{api.OpRem, low, -1},
		{api.OpRem, 5, 0},
		{api.OpRem, 0, 0},
		{api.OpUshr, -1, 0},
		{api.OpUshr, -1, 32},
		{api.OpUshr, low, 64},
	} {
		notFast(t, c.op, i(c.a), i(c.b))
	}
}

func TestFastTests(t *testing.T) {
	l := wholes()
	for _, x := range l {
		for _, y := range l {
			fastIs(t, api.OpLess, i(x), i(y), word.Bool(x < y))
			fastIs(t, api.OpLessEq, i(x), i(y), word.Bool(x <= y))
			fastIs(t, api.OpGreater, i(x), i(y), word.Bool(x > y))
			fastIs(t, api.OpGreaterEq, i(x), i(y), word.Bool(x >= y))
		}
	}
}

// R7: what Fast tells is what Slow tells, and it tells it just if that is an Int or a test's answer.
func TestFastIsSlow(t *testing.T) {
	eachInts(func(x, y int32) {
		for _, op := range operations() {
			slow := meant(op, float64(x), float64(y))
			slowIs(t, op, i(x), i(y), slow)
			if _, whole := word.IsInt(slow); whole || slow == word.True || slow == word.False {
				fastIs(t, op, i(x), i(y), slow)
			} else {
				notFast(t, op, i(x), i(y))
			}
		}
	})
}

// Other numbers are not done at once, even if what comes out would be a whole one.
func TestNotFastOfOtherNumbers(t *testing.T) {
	for _, op := range operations() {
		for _, f := range others() {
			notFast(t, op, num(f), i(1))
			notFast(t, op, i(1), num(f))
			notFast(t, op, num(f), num(f))
		}
	}
}

func TestNotFastOfNoNumber(t *testing.T) {
	for _, op := range operations() {
		for _, w := range append(noNumbers(), notRight()...) {
			notFast(t, op, w, i(1))
			notFast(t, op, i(1), w)
			notFast(t, op, w, w)
		}
	}
}

func TestNotFastOfNoOperation(t *testing.T) {
	for _, op := range noOperations() {
		notFast(t, op, i(1), i(2))
		notFast(t, op, i(0), i(0))
		notFast(t, op, word.True, i(1))
	}
}

// The chapter's examples.
func TestExamples(t *testing.T) {
	fastIs(t, api.OpAdd, i(2), i(3), i(5))
	notFast(t, api.OpAdd, i(2147483647), i(1))
	slowIs(t, api.OpAdd, i(2147483647), i(1), num(2147483648))
	notFast(t, api.OpMul, i(0), i(-1))
	slowIs(t, api.OpMul, i(0), i(-1), 0x8000000000000000)
	fastIs(t, api.OpDiv, i(6), i(3), i(2))
	notFast(t, api.OpDiv, i(7), i(2))
	notFast(t, api.OpDiv, i(1), i(0))
	notFast(t, api.OpDiv, i(-2147483648), i(-1))
	fastIs(t, api.OpRem, i(7), i(-2), i(1))
	notFast(t, api.OpRem, i(-4), i(2))
	fastIs(t, api.OpShl, i(1), i(31), i(-2147483648))
	fastIs(t, api.OpShl, i(1), i(33), i(2))
	fastIs(t, api.OpShr, i(-5), i(1), i(-3))
	notFast(t, api.OpUshr, i(-1), i(0))
	fastIs(t, api.OpUshr, i(-1), i(1), i(2147483647))
	fastIs(t, api.OpLess, i(1), i(2), word.True)
	slowIs(t, api.OpLessEq, nan, i(1), word.False)
	slowIs(t, api.OpAdd, word.True, i(1), word.Undefined)
}

func TestTheSameTwice(t *testing.T) {
	eachInts(func(x, y int32) {
		for _, op := range operations() {
			w, ok := small.Fast(op, i(x), i(y))
			if v, is := small.Fast(op, i(x), i(y)); v != w || is != ok {
				t.Errorf("Fast of %d, %d, %d: %016x, then %016x", op, x, y, w, v)
			}
		}
	})
}
