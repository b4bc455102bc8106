package small_test

import (
	"math"
	"testing"

	"brazier/api"
	"brazier/small"
	"brazier/word"
)

const (
	neg0 api.Word = 1 << 63
	inf  api.Word = 0x7ff0000000000000
	ninf api.Word = 0xfff0000000000000
	nan  api.Word = 0x7ff8000000000000

	low  = -1 << 31
	high = 1<<31 - 1
)

func i(n int32) api.Word { return word.Int(n) }

func num(f float64) api.Word { return word.Number(math.Float64bits(f)) }

func operations() []int {
	return []int{
		api.OpAdd, api.OpSub, api.OpMul, api.OpDiv, api.OpRem,
		api.OpShl, api.OpShr, api.OpUshr, api.OpAnd, api.OpOr, api.OpXor,
		api.OpLess, api.OpLessEq, api.OpGreater, api.OpGreaterEq,
	}
}

// wholes are whole numbers of 32 bits at which something changes.
func wholes() []int32 {
	return []int32{
		low, low + 1, low + 2, -1 << 30, -46341, -46340, -65536, -65535, -64, -33, -32, -31, -5, -4, -3, -2, -1,
		0, 1, 2, 3, 4, 5, 7, 10, 16, 30, 31, 32, 33, 63, 64, 65, 46340, 46341, 65535, 65536, 1 << 30, high - 2, high - 1, high,
	}
}

// others are numbers that are no whole ones of 32 bits.
func others() []float64 {
	var l []float64
	for _, f := range []float64{
		0.1, 0.2, 0.5, 1.5, 2.5, 31.5, 32.9, high + 0.5, high + 1.5, high + 2, 1<<32 - 1, 1<<32 - 0.5, 1 << 32, 1<<32 + 1.5, 1<<32 + 33,
		1<<33 + 5, 1<<52 + 0.5, 1<<53 - 1, 1 << 53, 1<<53 + 2, 1 << 63, 1 << 64, 3 << 80, 1 << 84, 1e300, math.MaxFloat64, math.SmallestNonzeroFloat64, 0x1p-1022, math.Inf(1),
	} {
		l = append(l, f, -f)
	}
	return append(l, math.Copysign(0, -1), math.NaN(), high+1)
}

// noNumbers are words that can be, and are no number.
func noNumbers() []api.Word {
	return []api.Word{
		word.Undefined, word.Null, word.False, word.True, word.Hole,
		word.Object(0), word.Object(1), word.Object(1<<32 - 1), word.Text(0), word.Text(1), word.Text(1<<32 - 1),
	}
}

// notRight are words that can't be.
func notRight() []api.Word {
	return []api.Word{
		0, 0x3ff0000000000000, 0x4008000000000000, 0xbff0000000000000, 0x41dfffffffc00000, 0xc1e0000000000000, // whole numbers that are not Ints
		nan + 1, 0x7ff0000000000001, 0x7fffffffffffffff, 0xfff8000000000000, 0xfff8000000000001, 0xfff0000000000001, 0xffffffffffffffff, 0xfffd000000000000, // other NaNs
		i(1) | 1<<32, i(1) | 1<<47, word.Object(1) | 1<<32, word.Text(1) | 1<<32, word.Hole + 1, word.True | 1<<32,
	}
}

// noOperations are numbers that are no operation: those right beside them, others that code has, and any.
func noOperations() []int {
	l := []int{-1, -21, 99, 1 << 31, 1<<32 + api.OpAdd, 1<<32 + api.OpGreaterEq, math.MinInt, math.MaxInt}
	for op := range 256 {
		if op < 21 || op > 35 {
			l = append(l, op)
		}
	}
	return l
}

// chance tells the same numbers in each run.
type chance uint64

func (c *chance) next() uint64 {
	*c += 0x9e3779b97f4a7c15
	z := uint64(*c)
	z = (z ^ z>>30) * 0xbf58476d1ce4e5b9
	z = (z ^ z>>27) * 0x94d049bb133111eb
	return z ^ z>>31
}

// whole is one of 32 bits or fewer.
func (c *chance) whole() int32 { return int32(c.next()) >> (c.next() % 32) }

// float is a whole number of some size, one with a fraction, or any.
func (c *chance) float() float64 {
	n := float64(int64(c.next()) >> (c.next() % 64))
	switch c.next() % 3 {
	case 0:
		return n
	case 1:
		return n / float64(uint64(1)<<(c.next()%20))
	}
	return math.Float64frombits(c.next())
}

// eachInts calls f with pairs of edges, and with many others.
func eachInts(f func(x, y int32)) {
	for _, x := range wholes() {
		for _, y := range wholes() {
			f(x, y)
		}
	}
	c := chance(4)
	for range 20000 {
		f(c.whole(), c.whole())
	}
}

// eachNumbers calls f with pairs of edges of all numbers, and with many others.
func eachNumbers(f func(x, y float64)) {
	l := others()
	for _, n := range wholes() {
		l = append(l, float64(n))
	}
	for _, x := range l {
		for _, y := range l {
			f(x, y)
		}
	}
	c := chance(5)
	for range 20000 {
		f(c.float(), c.float())
	}
}

// meant is what an operation makes of two numbers, told by the language's own floats.
func meant(op int, p, q float64) api.Word {
	switch op {
	case api.OpAdd:
		return num(p + q)
	case api.OpSub:
		return num(p - q)
	case api.OpMul:
		return num(p * q)
	case api.OpDiv:
		return num(p / q)
	case api.OpRem:
		return num(math.Mod(p, q))
	case api.OpLess:
		return word.Bool(p < q)
	case api.OpLessEq:
		return word.Bool(p <= q)
	case api.OpGreater:
		return word.Bool(p > q)
	case api.OpGreaterEq:
		return word.Bool(p >= q)
	}
	return meantBits(op, p, q)
}

func meantBits(op int, p, q float64) api.Word {
	x, y := modulo(p), modulo(q)
	by := math.Pow(2, math.Mod(y, 32))
	switch op {
	case api.OpShl:
		return num(signed(modulo(x * by)))
	case api.OpShr:
		return num(math.Floor(signed(x) / by))
	case api.OpUshr:
		return num(math.Floor(x / by))
	}
	var n float64
	for k := 31; k >= 0; k-- {
		a, b := bit(x, k), bit(y, k)
		n *= 2
		if op == api.OpAnd && a && b || op == api.OpOr && (a || b) || op == api.OpXor && a != b {
			n++
		}
	}
	return num(signed(n))
}

// modulo is a number without its fraction, modulo 2^32.
func modulo(f float64) float64 {
	if math.IsNaN(f) || math.IsInf(f, 0) {
		return 0
	}
	m := math.Mod(math.Trunc(f), 1<<32)
	if m < 0 {
		m += 1 << 32
	}
	return m + 0
}

func signed(f float64) float64 {
	if f >= 1<<31 {
		return f - 1<<32
	}
	return f
}

func bit(f float64, k int) bool {
	return math.Mod(math.Floor(f/math.Pow(2, float64(k))), 2) == 1
}

func slowIs(t *testing.T, op int, a, b, want api.Word) {
	t.Helper()
	if got := small.Slow(op, a, b); got != want {
		t.Errorf("Slow of %d, %016x, %016x: %016x, want %016x", op, a, b, got, want)
	}
}

func fastIs(t *testing.T, op int, a, b, want api.Word) {
	t.Helper()
	if got, ok := small.Fast(op, a, b); !ok || got != want {
		t.Errorf("Fast of %d, %016x, %016x: %016x, %v, want %016x", op, a, b, got, ok, want)
	}
}

func notFast(t *testing.T, op int, a, b api.Word) {
	t.Helper()
	if got, ok := small.Fast(op, a, b); ok || got != 0 {
		t.Errorf("Fast of %d, %016x, %016x: %016x, %v", op, a, b, got, ok)
	}
}
