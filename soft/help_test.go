package soft_test

import (
	"math"
	"math/big"
	"testing"
)

const (
	neg0   = 1 << 63
	inf    = 0x7ff0000000000000
	ninf   = 0xfff0000000000000
	nan    = 0x7ff8000000000000
	most   = 0x7fefffffffffffff // the greatest finite one
	least  = 1                  // the smallest above 0
	normal = 0x0010000000000000 // the smallest normal one
	one    = 0x3ff0000000000000
	two    = 0x4000000000000000
	half   = 0x3fe0000000000000
	two53  = 0x4340000000000000
	two970 = 0x7c90000000000000
	below  = 0x3fefffffffffffff // the one below 1
	beyond = 0x3ff0000000000001 // the one above 1
)

// rounds is how many numbers beside the edges a test takes.
const rounds = 20000

func of(f float64) uint64 { return math.Float64bits(f) }

// plain is the bits of a float, with the one NaN that is answered.
func plain(f float64) uint64 {
	if f != f {
		return nan
	}
	return of(f)
}

func float(a uint64) float64 { return math.Float64frombits(a) }

// edges are numbers at which something changes, of both signs.
func edges() []uint64 {
	l := []uint64{
		0, least, 2, 3, 0x0007ffffffffffff, 0x0008000000000000, 0x000ffffffffffffe, 0x000fffffffffffff,
		normal, normal + 1, 0x001fffffffffffff, 0x0020000000000000,
		0x3c90000000000000, 0x3ca0000000000000, 0x3ca0000000000001, 0x3cb0000000000000,
		0x3fb999999999999a, 0x3fc999999999999a, 0x3fdfffffffffffff, half, half + 1, below, one, beyond,
		0x3ff8000000000000, two, 0x4004000000000000, 0x4008000000000000, 0x4016000000000000, of(10),
		of(1<<31 - 1), of(1<<31 - 0.5), of(1 << 31), of(1<<32 - 1), of(1 << 32), of(1<<32 + 5), of(1<<32 + 0.5),
		of(1<<51 + 0.5), of(1<<52 - 0.5), of(1 << 52), of(1<<52 + 1), of(1<<53 - 1), two53, two53 + 1,
		of(1 << 63), of(1 << 64), of(1 << 84), of(1 << 85), two970 - 1, two970, two970 + 1, 0x7fdfffffffffffff, 0x7fe0000000000000, most - 1, most,
		inf, inf + 1, nan - 1, nan, nan + 1, 0x7fffffffffffffff,
	}
	for _, a := range l[:len(l):len(l)] {
		l = append(l, a|neg0)
	}
	return l
}

// chance tells the same numbers in each run, of all bits, and often of exponents near to each other.
type chance uint64

func (c *chance) next() uint64 {
	*c += 0x9e3779b97f4a7c15
	z := uint64(*c)
	z = (z ^ z>>30) * 0xbf58476d1ce4e5b9
	z = (z ^ z>>27) * 0x94d049bb133111eb
	return z ^ z>>31
}

// number is one of any bits, near 1, below the normal ones, near the greatest, or with few bits set.
func (c *chance) number() uint64 {
	a := c.next()
	switch c.next() % 6 {
	case 0:
		return a&^(0x7ff<<52) | (960+c.next()%128)<<52
	case 1:
		return a &^ (0x7ff << 52) >> (c.next() % 52)
	case 2:
		return a&^(0x7ff<<52) | (c.next()%64)<<52
	case 3:
		return a&^(0x7ff<<52) | (2046-c.next()%64)<<52
	case 4:
		return a &^ (1<<(c.next()%53) - 1)
	}
	return a
}

// pairs calls f with each two of the edges, and with many others.
func pairs(f func(a, b uint64)) {
	l := edges()
	for _, a := range l {
		for _, b := range l {
			f(a, b)
		}
	}
	c := chance(1)
	for range rounds {
		a, b := c.number(), c.number()
		f(a, b)
		f(a, l[c.next()%uint64(len(l))])
		f(l[c.next()%uint64(len(l))], b)
	}
}

// singles calls f with each of the edges, and with many others.
func singles(f func(a uint64)) {
	for _, a := range edges() {
		f(a)
	}
	c := chance(2)
	for range rounds {
		f(c.number())
	}
}

// exact is a finite number's value.
func exact(a uint64) *big.Rat {
	return new(big.Rat).SetFloat64(float(a))
}

func finite(a uint64) bool { return a&inf != inf }

// rounded is the number that is nearest to a value.
func rounded(v *big.Rat) uint64 {
	f, _ := v.Float64()
	return of(f)
}

// want tells of an answer that is another.
func want(t *testing.T, what string, got, wanted uint64, args ...uint64) {
	t.Helper()
	if got != wanted {
		t.Errorf("%s of %x: %016x, want %016x", what, args, got, wanted)
	}
}

// of2 is what a call of two answers.
type of2 struct{ a, b, answer uint64 }

func table(t *testing.T, what string, f func(a, b uint64) uint64, l []of2) {
	t.Helper()
	for _, c := range l {
		want(t, what, f(c.a, c.b), c.answer, c.a, c.b)
	}
}

// oneNaN: whatever NaN comes in on either side, the one NaN comes out.
func oneNaN(t *testing.T, what string, f func(a, b uint64) uint64) {
	t.Helper()
	for _, n := range nans() {
		for _, a := range edges() {
			want(t, what, f(n, a), nan, n, a)
			want(t, what, f(a, n), nan, a, n)
		}
	}
}

func nans() []uint64 {
	l := []uint64{}
	for _, n := range []uint64{inf + 1, nan - 1, nan, nan + 1, 0x7fffffffffffffff} {
		l = append(l, n, n|neg0)
	}
	for i := range 52 {
		l = append(l, inf|1<<i, ninf|1<<i)
	}
	return l
}
