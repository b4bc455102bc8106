package word_test

import (
	"math"
	"testing"

	"brazier/api"
	"brazier/word"
)

const (
	neg0  = 1 << 63
	inf   = 0x7ff0000000000000
	ninf  = 0xfff0000000000000
	nan   = 0x7ff8000000000000
	most  = 0x7fefffffffffffff // the greatest finite one
	least = 1                  // the smallest above 0

	low  = -1 << 31
	high = 1<<31 - 1
)

func of(f float64) uint64 { return math.Float64bits(f) }

func float(a uint64) float64 { return math.Float64frombits(a) }

// edges are bits at which something changes, of both signs: those of each tag are among them.
func edges() []uint64 {
	l := []uint64{
		0, least, 2, 0x000fffffffffffff, 0x0010000000000000, of(0.1), of(0.5), 0x3fefffffffffffff, of(1), 0x3ff0000000000001,
		of(1.5), of(2), of(3), of(10), of(255), of(65535.5), of(65536), of(1 << 30),
		of(high - 1), of(high - 0.5), of(high) - 1, of(high), of(high) + 1, of(high + 0.5),
		of(-low) - 1, of(-low), of(-low) + 1, of(-low + 0.5), of(-low + 1), of(-low + 2),
		of(1<<32 - 1), of(1 << 32), of(1<<32 + 1), of(1<<33 + 5), of(1<<52 - 0.5), of(1<<53 - 1), of(1 << 53), of(1 << 63), of(1 << 64), most,
		inf, inf + 1, 0x7ff7ffffffffffff, nan, nan + 1, 0x7fffffffffffffff,
	}
	for tag := uint64(0x7ff8); tag <= 0x7fff; tag++ {
		for _, n := range []uint64{0, 1, 3, 4, 5, 1<<31 - 1, 1 << 31, 1<<32 - 1, 1 << 32, 1<<48 - 1} {
			l = append(l, tag<<48|n)
		}
	}
	for _, a := range l[:len(l):len(l)] {
		l = append(l, a|neg0)
	}
	return l
}

// chance tells the same numbers in each run.
type chance uint64

func (c *chance) next() uint64 {
	*c += 0x9e3779b97f4a7c15
	z := uint64(*c)
	z = (z ^ z>>30) * 0xbf58476d1ce4e5b9
	z = (z ^ z>>27) * 0x94d049bb133111eb
	return z ^ z>>31
}

// bits is one of any bits, a whole number, one with a half, or one whose high bits are a tag's or near to it.
func (c *chance) bits() uint64 {
	a := c.next()
	n := float64(int64(c.next()) >> (c.next() % 64))
	switch c.next() % 4 {
	case 0:
		return of(n)
	case 1:
		return of(n + 0.5)
	case 2:
		return (0xfff7+c.next()%9)<<48 | a>>(16+c.next()%48)
	}
	return a
}

// each calls f with the edges, and with many others.
func each(f func(a uint64)) {
	for _, a := range edges() {
		f(a)
	}
	c := chance(3)
	for range 100000 {
		f(c.bits())
	}
}

// numberOf is the word of a binary64, told by the language's own floats.
func numberOf(a uint64) api.Word {
	f := float(a)
	switch {
	case f != f:
		return nan
	case f == 0 && math.Signbit(f) || f != math.Floor(f) || f < low || f > high:
		return api.Word(a)
	}
	return 0xfff9<<48 | api.Word(uint32(int32(f)))
}

// same tells whether two binary64s are the same number.
func same(a, b uint64) bool {
	f, g := float(a), float(b)
	return a == b || f != f && g != g
}

// payloads are 0, the greatest, and others between.
func payloads() []uint32 {
	return []uint32{0, 1, 2, 5, 65535, 65536, 1<<31 - 1, 1 << 31, 1<<31 + 1, 1<<32 - 2, 1<<32 - 1}
}

func constants() []api.Word {
	return []api.Word{word.Undefined, word.Null, word.False, word.True, word.Hole}
}

// reads holds what is told of a word against what is to be told.
func reads[P int32 | uint32](t *testing.T, what string, f func(api.Word) (P, bool), w api.Word, n P, is bool) {
	t.Helper()
	if got, ok := f(w); got != n || ok != is {
		t.Errorf("%s of %016x: %d, %v, want %d, %v", what, w, got, ok, n, is)
	}
}

func is(t *testing.T, what string, got, want api.Word) {
	t.Helper()
	if got != want {
		t.Errorf("%s: %016x, want %016x", what, got, want)
	}
}

func bitsAre(t *testing.T, w api.Word, want uint64, is bool) {
	t.Helper()
	if got, ok := word.Bits(w); got != want || ok != is {
		t.Errorf("Bits of %016x: %016x, %v, want %016x, %v", w, got, ok, want, is)
	}
}

func rightIs(t *testing.T, w api.Word, want bool) {
	t.Helper()
	if got := word.Right(w); got != want {
		t.Errorf("Right of %016x: %v", w, got)
	}
}
