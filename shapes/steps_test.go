package shapes_test

import (
	"math"
	"slices"
	"testing"

	"brazier/shapes"
)

// P11.2, P11.3: the chapter's examples.
func TestExamples(t *testing.T) {
	x := shapes.New(256)
	play(t, x, root(7, 0), add(0, "a", 7, 1), add(0, "b", 7, 2), add(0, "a", 7, 1))
	play(t, x, change(1, "a", 3, 3), change(1, "a", 7, 1), move(1, 8, 5), root(8, 4))
	counts(t, x, 6)
	has(t, x, 0, 7)
	has(t, x, 1, 7, "a", 7)
	has(t, x, 2, 7, "b", 7)
	has(t, x, 3, 7, "a", 3)
	has(t, x, 4, 8)
	has(t, x, 5, 8, "a", 7)
}

// P11.2: a root a prototype, at both ends of the numbers, and those between that differ in one bit.
func TestRoots(t *testing.T) {
	x := shapes.New(100)
	play(t, x, root(0, 0), root(math.MaxUint64, 1), root(math.MaxUint64-1, 2), root(1, 3), root(0, 0), root(math.MaxUint64, 1))
	for n := 1; n < 63; n++ {
		play(t, x, root(1<<n, 3+n), root(1<<n, 3+n))
	}
	for n := 1; n < 63; n++ {
		play(t, x, root(1<<n, 3+n))
		has(t, x, 3+n, 1<<n)
	}
}

// P11.2: a key more, behind the others; orders of keys, keys, flags and prototypes that are others are other shapes.
func TestAdd(t *testing.T) {
	x := shapes.New(100)
	play(t, x, root(7, 0), add(0, "a", 1, 1), add(1, "b", 2, 2), add(0, "b", 2, 3), add(3, "a", 1, 4))
	has(t, x, 2, 7, "a", 1, "b", 2)
	has(t, x, 4, 7, "b", 2, "a", 1)
	play(t, x, add(0, "a", 2, 5), add(5, "b", 1, 6), add(1, "b", 1, 7), add(1, "c", 2, 8))
	has(t, x, 6, 7, "a", 2, "b", 1)
	has(t, x, 7, 7, "a", 1, "b", 1)
	has(t, x, 8, 7, "a", 1, "c", 2)
	play(t, x, root(8, 9), add(9, "a", 1, 10), add(10, "b", 2, 11))
	has(t, x, 11, 8, "a", 1, "b", 2)
	play(t, x, add(0, "a", 1, 1), add(1, "b", 2, 2), add(0, "b", 2, 3), add(3, "a", 1, 4), add(5, "b", 1, 6), add(10, "b", 2, 11))
	counts(t, x, 12)
}

// P11.2: a key that the shape has is added to it no more, with whatever flags; neither by a change does it go away.
func TestAddTwice(t *testing.T) {
	x := shapes.New(100)
	play(t, x, root(7, 0), add(0, "a", 1, 1), add(1, "b", 2, 2), add(2, "c", 3, 3), change(3, "b", 9, 4))
	for shape, keys := range [][]string{nil, {"a"}, {"a", "b"}, {"a", "b", "c"}, {"a", "b", "c"}} {
		for _, k := range keys {
			for _, flags := range []int{0, 1, 2, 3, 9, -1, math.MinInt, math.MaxInt} {
				play(t, x, add(shape, k, flags, refused))
			}
		}
	}
	counts(t, x, 5)
	play(t, x, add(4, "d", 1, 5), add(5, "b", 2, refused), add(5, "d", 1, refused))
	has(t, x, 5, 7, "a", 1, "b", 9, "c", 3, "d", 1)
}

// P11.2: other flags of a key: the same keys in the same order; of one that the shape has not it is refused.
func TestChange(t *testing.T) {
	x := shapes.New(100)
	play(t, x, root(7, 0), add(0, "a", 1, 1), add(1, "b", 2, 2), add(2, "c", 3, 3))
	play(t, x, change(3, "a", 9, 4), change(3, "b", 9, 5), change(3, "c", 9, 6), change(4, "b", 9, 7), change(5, "a", 9, 8))
	has(t, x, 3, 7, "a", 1, "b", 2, "c", 3)
	has(t, x, 4, 7, "a", 9, "b", 2, "c", 3)
	has(t, x, 5, 7, "a", 1, "b", 9, "c", 3)
	has(t, x, 6, 7, "a", 1, "b", 2, "c", 9)
	has(t, x, 7, 7, "a", 9, "b", 9, "c", 3)
	has(t, x, 8, 7, "a", 9, "b", 9, "c", 3)
	play(t, x, change(3, "a", 9, 4), change(3, "b", 9, 5), change(3, "c", 9, 6), change(4, "b", 9, 7), change(5, "a", 9, 8))
	play(t, x, change(3, "a", 8, 9), change(2, "c", 3, refused), change(1, "b", 2, refused), change(0, "a", 1, refused), change(0, "", 0, refused), change(3, "d", 0, refused), change(3, "", 3, refused))
	counts(t, x, 10)
}

// P11.2: to the same flags: the shape itself, be it added or changed to them, at the last step or ahead of it.
func TestChangeToTheSame(t *testing.T) {
	x := shapes.New(5)
	play(t, x, root(7, 0), add(0, "a", 1, 1), add(1, "b", 2, 2), change(2, "a", 3, 3), change(3, "b", 4, 4))
	for range 2 {
		play(t, x, change(1, "a", 1, 1), change(2, "a", 1, 2), change(2, "b", 2, 2), change(3, "a", 3, 3), change(3, "b", 2, 3), change(4, "a", 3, 4), change(4, "b", 4, 4))
	}
	counts(t, x, 5)
}

// P11.1, P11.4: a Change back to the flags that were is one more step: it comes to no shape that there was.
func TestChangeBack(t *testing.T) {
	x := shapes.New(100)
	play(t, x, root(7, 0), add(0, "a", 1, 1), change(1, "a", 3, 2), change(2, "a", 1, 3), change(3, "a", 3, 4), change(3, "a", 1, 3), change(4, "a", 1, 5))
	has(t, x, 1, 7, "a", 1)
	has(t, x, 2, 7, "a", 3)
	has(t, x, 3, 7, "a", 1)
	has(t, x, 4, 7, "a", 3)
	play(t, x, change(1, "a", 3, 2), change(2, "a", 1, 3), change(3, "a", 3, 4))
	counts(t, x, 6)
	play(t, x, add(1, "b", 1, 6), add(3, "b", 1, 7), add(1, "b", 1, 6), add(3, "b", 1, 7))
}

// P11.2, P11.4: a Change is another step than an Add of the same key and flags; so is a Change ahead of an Add than one behind it.
func TestChangeIsNoAdd(t *testing.T) {
	x := shapes.New(100)
	play(t, x, root(7, 0), add(0, "a", 1, 1), change(1, "a", 3, 2), add(0, "a", 3, 3), change(3, "a", 1, 4))
	has(t, x, 2, 7, "a", 3)
	has(t, x, 3, 7, "a", 3)
	play(t, x, add(1, "b", 2, 5), change(5, "a", 3, 6), add(2, "b", 2, 7), add(3, "b", 2, 8))
	for _, shape := range []int{6, 7, 8} {
		has(t, x, shape, 7, "a", 3, "b", 2)
	}
	play(t, x, change(1, "a", 3, 2), add(1, "a", 3, refused), change(0, "a", 3, refused), add(0, "a", 3, 3))
	counts(t, x, 9)
}

// P11.2: the same keys with the flags that they have at last, under another prototype.
func TestMove(t *testing.T) {
	x := shapes.New(100)
	play(t, x, root(7, 0), add(0, "a", 1, 1), add(1, "b", 2, 2), add(2, "c", 3, 3))
	play(t, x, move(3, 8, 7), root(8, 4), add(4, "a", 1, 5), add(5, "b", 2, 6), add(6, "c", 3, 7), move(2, 8, 6), move(1, 8, 5), move(0, 8, 4))
	has(t, x, 7, 8, "a", 1, "b", 2, "c", 3)
	play(t, x, change(3, "b", 9, 8), change(8, "a", 5, 9), change(9, "b", 4, 10), move(10, 8, 13), add(4, "a", 5, 11), add(11, "b", 4, 12), add(12, "c", 3, 13))
	has(t, x, 10, 7, "a", 5, "b", 4, "c", 3)
	has(t, x, 13, 8, "a", 5, "b", 4, "c", 3)
	play(t, x, move(13, 7, 16), add(0, "a", 5, 14), add(14, "b", 4, 15), move(7, 7, 3), move(0, 9, 17), move(17, 8, 4))
	counts(t, x, 18)
}

// P11.2: to the same prototype: the shape itself, if Adds alone led to it; else the one to which they would have led.
func TestMoveToTheSame(t *testing.T) {
	x := shapes.New(100)
	play(t, x, root(7, 0), add(0, "a", 1, 1), add(1, "b", 2, 2), move(2, 7, 2), move(1, 7, 1), move(0, 7, 0))
	play(t, x, change(2, "a", 3, 3), move(3, 7, 5), add(0, "a", 3, 4), add(4, "b", 2, 5), move(5, 7, 5))
	has(t, x, 3, 7, "a", 3, "b", 2)
	has(t, x, 5, 7, "a", 3, "b", 2)
	play(t, x, change(3, "a", 1, 6), move(6, 7, 2), change(1, "a", 9, 7), change(7, "a", 1, 8), move(8, 7, 1))
	counts(t, x, 9)
}

// P11.2: a Move is what Root and Adds come to, whichever is called first.
func TestMoveIsRootAndAdds(t *testing.T) {
	ahead := []call{root(1, 0), add(0, "a", 4, 1), add(1, "b", 5, 2), change(2, "a", 6, 3), add(3, "c", 7, 4)}
	steps := []call{root(9, 5), add(5, "a", 6, 6), add(6, "b", 5, 7), add(7, "c", 7, 8)}
	x, y := shapes.New(9), shapes.New(9)
	play(t, x, ahead...)
	play(t, y, ahead...)
	play(t, x, move(4, 9, 8))
	play(t, x, steps...)
	play(t, y, steps...)
	play(t, y, move(4, 9, 8))
	if !slices.EqualFunc(look(t, x), look(t, y), seen.same) {
		t.Error("two ways of calling:", look(t, x), look(t, y))
	}
}

// R2, P11.2: keys are bytes, any of them, or none; each is another one.
func TestKeysOfAnyBytes(t *testing.T) {
	keys := []string{"", "\x00", "\x00\x00", " ", "a", "A", "a ", "a\x00", "ab", "b", "\xff", "\xff\xfe", "\xc3", "\xc3\xa4", "a\xcc\x88", "\xed\xa0\x80", "\xef\xbf\xbd", "0", "00", "1", "__proto__", string(make([]byte, 5000))}
	x := shapes.New(2*len(keys) + 1)
	play(t, x, root(0, 0))
	for n, k := range keys {
		play(t, x, change(0, k, 0, refused), add(0, k, 0, 1+n), add(0, k, 0, 1+n), add(1+n, k, 0, refused))
		for m, o := range keys {
			if slot, flags, is := x.Find(1+n, o); slot != 0 || flags != 0 || is != (m == n) {
				t.Errorf("of %q Find(%q) is %d, %d, %v", k, o, slot, flags, is)
			}
		}
	}
	at := 1 // that of ""
	for n, k := range keys[1:] {
		play(t, x, add(at, k, 0, len(keys)+1+n))
		at = len(keys) + 1 + n
	}
	if got := x.Keys(at); !slices.Equal(got, keys) {
		t.Errorf("keys %q", got)
	}
}

// P11.4: where one key ends and the next one begins is seen.
func TestKeysAreNotJoined(t *testing.T) {
	x := shapes.New(100)
	play(t, x, root(0, 0), add(0, "a", 1, 1), add(1, "bc", 1, 2), add(0, "ab", 1, 3), add(3, "c", 1, 4), add(0, "abc", 1, 5), add(0, "", 1, 6), add(6, "abc", 1, 7), add(5, "", 1, 8))
	has(t, x, 2, 0, "a", 1, "bc", 1)
	has(t, x, 4, 0, "ab", 1, "c", 1)
	has(t, x, 7, 0, "", 1, "abc", 1)
	has(t, x, 8, 0, "abc", 1, "", 1)
}

// P11.2, P11.3: flags are numbers, at both ends too, none of whose bits is lost.
func TestFlags(t *testing.T) {
	list := []int{math.MinInt, math.MinInt + 1, -1 << 32, -8, -1, 0, 1, 7, 8, 15, 16, 256, 1 << 31, 1 << 32, 1<<32 + 7, math.MaxInt - 1, math.MaxInt}
	x := shapes.New(1000)
	play(t, x, root(7, 0))
	for n, f := range list {
		play(t, x, add(0, "a", f, 1+n), add(0, "a", f, 1+n), change(1+n, "a", f, 1+n))
		has(t, x, 1+n, 7, "a", f)
	}
	next := x.Count()
	for n, f := range list {
		for _, to := range list {
			if f != to {
				play(t, x, change(1+n, "a", to, next), change(1+n, "a", to, next))
				has(t, x, next, 7, "a", to)
				next++
			}
		}
	}
	play(t, x, move(1, 8, next+1), move(next+1, math.MaxUint64, next+3), move(next+3, 7, 1))
	has(t, x, next+1, 8, "a", math.MinInt)
	has(t, x, next+3, math.MaxUint64, "a", math.MinInt)
}

// P11.1: the same keys and flags under prototypes at both ends of the numbers are other shapes.
func TestPrototypesParted(t *testing.T) {
	x := shapes.New(100)
	play(t, x, root(0, 0), root(math.MaxUint64, 1), add(0, "a", 7, 2), add(1, "a", 7, 3), change(2, "a", 1, 4), change(3, "a", 1, 5))
	play(t, x, move(2, math.MaxUint64, 3), move(3, 0, 2), move(4, math.MaxUint64, 6), move(5, 0, 7))
	has(t, x, 6, math.MaxUint64, "a", 1)
	has(t, x, 7, 0, "a", 1)
	counts(t, x, 8)
}
