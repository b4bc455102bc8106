package word_test

import (
	"slices"
	"testing"

	"brazier/api"
	"brazier/word"
)

// P3.2

func TestTagged(t *testing.T) {
	is(t, "Int(0)", word.Int(0), 0xfff9000000000000)
	is(t, "Int(-1)", word.Int(-1), 0xfff90000ffffffff)
	is(t, "Int of the lowest", word.Int(low), 0xfff9000080000000)
	is(t, "Int of the highest", word.Int(high), 0xfff900007fffffff)
	is(t, "Object(0)", word.Object(0), 0xfffa000000000000)
	is(t, "Object(5)", word.Object(5), 0xfffa000000000005)
	is(t, "Object of the greatest", word.Object(1<<32-1), 0xfffa0000ffffffff)
	is(t, "Text(0)", word.Text(0), 0xfffc000000000000)
	is(t, "Text(1)", word.Text(1), 0xfffc000000000001)
	is(t, "Text of the greatest", word.Text(1<<32-1), 0xfffc0000ffffffff)
	is(t, "Bool(true)", word.Bool(true), word.True)
	is(t, "Bool(false)", word.Bool(false), word.False)
}

func TestConstants(t *testing.T) {
	for n, w := range constants() {
		is(t, "constant", w, 0xfffb<<48|api.Word(n))
	}
}

func TestPayloads(t *testing.T) {
	for _, n := range payloads() {
		reads(t, "IsInt", word.IsInt, word.Int(int32(n)), int32(n), true)
		reads(t, "IsObject", word.IsObject, word.Object(n), n, true)
		reads(t, "IsText", word.IsText, word.Text(n), n, true)
	}
}

// Of any word one tag at most is read, and none if the bits behind it are not 0.
func TestPayloadsOfAnyWord(t *testing.T) {
	each(func(a uint64) {
		w := api.Word(a)
		n := uint32(a)
		tag := a >> 32
		ints, objects, texts := tag == 0xfff90000, tag == 0xfffa0000, tag == 0xfffc0000
		reads(t, "IsInt", word.IsInt, w, int32(n)*number[int32](ints), ints)
		reads(t, "IsObject", word.IsObject, w, n*number[uint32](objects), objects)
		reads(t, "IsText", word.IsText, w, n*number[uint32](texts), texts)
	})
}

func number[N int32 | uint32](b bool) N {
	if b {
		return 1
	}
	return 0
}

func TestPayloadsOfNone(t *testing.T) {
	l := []api.Word{
		0, 3, 0x4008000000000000, neg0, nan, inf, ninf,
		0xfff8000000000003, 0xfffd000000000003, 0x7ff9000000000003, 0x7ffa000000000003, 0x7ffc000000000003,
	}
	l = append(l, constants()...)
	for _, n := range payloads() {
		for i := range 16 {
			bit := api.Word(1) << (32 + i)
			l = append(l, word.Int(int32(n))|bit, word.Object(n)|bit, word.Text(n)|bit)
		}
	}
	for _, w := range l {
		reads(t, "IsInt", word.IsInt, w, 0, false)
		reads(t, "IsObject", word.IsObject, w, 0, false)
		reads(t, "IsText", word.IsText, w, 0, false)
	}
}

// P3.3

func TestRight(t *testing.T) {
	for _, w := range constants() {
		rightIs(t, w, true)
	}
	for _, n := range payloads() {
		rightIs(t, word.Int(int32(n)), true)
		rightIs(t, word.Object(n), true)
		rightIs(t, word.Text(n), true)
	}
	for _, w := range []api.Word{neg0, 1, 0x3fe0000000000000, 0x41e0000000000000, most, inf, ninf, nan} {
		rightIs(t, w, true)
	}
}

func TestNotRight(t *testing.T) {
	for _, w := range []api.Word{
		0, 0x4008000000000000, api.Word(of(high)), api.Word(of(low)), // they are Ints
		0xfffb000000000005, 0xfffb0000ffffffff, 0xfffbffffffffffff, // beyond the constants
		inf + 1, nan - 1, nan + 1, 0x7fffffffffffffff, ninf + 1,
		0xfff8000000000000, 0xfff8ffffffffffff, 0xfffd000000000000, 0xffffffffffffffff,
	} {
		rightIs(t, w, false)
	}
	for i := range 16 {
		bit := api.Word(1) << (32 + i)
		for _, w := range append(constants(), word.Int(0), word.Int(-1), word.Object(0), word.Object(1<<32-1), word.Text(0), word.Text(1<<32-1)) {
			rightIs(t, w|bit, false)
		}
	}
}

// rightOf tells whether a word can be, as the chapter says it, by the language's own floats.
func rightOf(w api.Word) bool {
	switch w >> 48 {
	case 0xfff9, 0xfffa, 0xfffc:
		return w>>32&0xffff == 0
	case 0xfffb:
		return slices.Contains(constants(), w)
	}
	return numberOf(uint64(w)) == w
}

func TestRightOfMany(t *testing.T) {
	each(func(a uint64) { rightIs(t, api.Word(a), rightOf(api.Word(a))) })
	for tag := range api.Word(1 << 16) {
		for _, n := range []api.Word{0, 1, 4, 5, 1<<32 - 1, 1 << 32, 1 << 47, 1<<48 - 1} {
			w := tag<<48 | n
			rightIs(t, w, rightOf(w))
		}
	}
}

// A word that can be is one thing alone; one that can't is none.
func TestOneThingAlone(t *testing.T) {
	each(func(a uint64) {
		w := api.Word(a)
		n := 0
		for _, ok := range []bool{second(word.Bits(w)), second(word.IsObject(w)), second(word.IsText(w)), slices.Contains(constants(), w)} {
			if ok {
				n++
			}
		}
		if n > 1 || word.Right(w) != (n == 1) {
			t.Errorf("%016x is %d things; Right: %v", w, n, word.Right(w))
		}
		if second(word.IsInt(w)) && !second(word.Bits(w)) {
			t.Errorf("%016x is an Int, and no number", w)
		}
	})
}

func second[N any](_ N, ok bool) bool { return ok }
