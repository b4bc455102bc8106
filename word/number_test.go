package word_test

import (
	"strconv"
	"testing"

	"brazier/api"
	"brazier/word"
)

// P3.1

func TestNumber(t *testing.T) {
	for _, c := range []struct {
		bits uint64
		want api.Word
	}{
		{of(3), 0xfff9000000000003},
		{0, 0xfff9000000000000},
		{neg0, 0x8000000000000000},
		{of(-1), 0xfff90000ffffffff},
		{of(high), 0xfff900007fffffff},
		{of(high + 1), 0x41e0000000000000},
		{of(high - 0.5), 0x41dfffffffa00000},
		{of(low), 0xfff9000080000000},
		{of(low - 1), 0xc1e0000000200000},
		{of(low + 0.5), 0xc1dfffffffe00000},
		{of(1 << 32), 0x41f0000000000000},
		{of(1<<32 + 3), 0x41f0000000300000},
		{of(1 << 53), 0x4340000000000000},
		{of(0.5), 0x3fe0000000000000},
		{least, 1},
		{neg0 | least, 0x8000000000000001},
		{most, most},
		{inf, inf},
		{ninf, ninf},
		{nan, nan},
		{inf + 1, nan},
		{ninf + 1, nan},
		{0x7fffffffffffffff, nan},
		{0xffffffffffffffff, nan},
		{0xfff8000000000000, nan},
		{0xfff9000000000003, nan}, // bits that a word of a tag has are no number
		{0xfffa000000000000, nan},
		{0xfffb000000000001, nan},
		{0xfffc000000000007, nan},
	} {
		is(t, "Number of "+strconv.FormatUint(c.bits, 16), word.Number(c.bits), c.want)
	}
}

func TestNumberOfMany(t *testing.T) {
	each(func(a uint64) {
		is(t, "Number of "+strconv.FormatUint(a, 16), word.Number(a), numberOf(a))
	})
}

func TestBits(t *testing.T) {
	for _, n := range []int32{0, 1, -1, 3, low, low + 1, high - 1, high} {
		bitsAre(t, word.Int(n), of(float64(n)), true)
	}
	for _, w := range []uint64{neg0, of(0.5), of(-0.5), of(high + 1), of(low - 1), least, most, inf, ninf, nan} {
		bitsAre(t, api.Word(w), w, true)
	}
}

// Bits tells nothing of words that are no number's, and of those that can't be.
func TestBitsOfNone(t *testing.T) {
	for _, w := range constants() {
		bitsAre(t, w, 0, false)
	}
	for _, n := range payloads() {
		bitsAre(t, word.Object(n), 0, false)
		bitsAre(t, word.Text(n), 0, false)
	}
	for _, w := range []api.Word{
		0, 0x4008000000000000, api.Word(of(-1)), api.Word(of(high)), api.Word(of(low)), // whole ones by their own bits
		0xfff9000100000000, 0xfff9800000000000, 0xfffa000100000000, 0xfffb000000000005, 0xfffc000100000000,
		inf + 1, ninf + 1, nan - 1, nan + 1, 0xfff8000000000000, 0xfffd000000000000, 0xffffffffffffffff,
	} {
		bitsAre(t, w, 0, false)
	}
}

// What Number makes of bits, Bits makes into them again; what it can't have made is no number's word.
func TestThereAndBack(t *testing.T) {
	each(func(a uint64) {
		back := a
		if float(a) != float(a) {
			back = nan
		}
		bitsAre(t, word.Number(a), back, true)
		rightIs(t, word.Number(a), true)
		if b, ok := word.Bits(api.Word(a)); ok {
			is(t, "Number of Bits", word.Number(b), api.Word(a))
		}
	})
}

// P3.4

func TestOneWordANumber(t *testing.T) {
	l := edges()
	for _, a := range l {
		for _, b := range l {
			if one := word.Number(a) == word.Number(b); one != same(a, b) {
				t.Errorf("%x and %x: one word: %v", a, b, one)
			}
		}
	}
	each(func(a uint64) {
		for _, b := range []uint64{a + 1, a ^ neg0, a ^ 1<<52, a ^ 1<<31, a} {
			if one := word.Number(a) == word.Number(b); one != same(a, b) {
				t.Errorf("%x and %x: one word: %v", a, b, one)
			}
		}
	})
}
