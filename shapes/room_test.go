package shapes_test

import (
	"math"
	"testing"

	"brazier/shapes"
)

// P11.1, P11.4: a tree of no shape, and of fewer than none.
func TestNoRoom(t *testing.T) {
	for _, most := range []int{0, -1, -2, math.MinInt + 1, math.MinInt} {
		x := shapes.New(most)
		for _, p := range []uint64{0, 7, math.MaxUint64} {
			play(t, x, root(p, refused), add(0, "a", 7, refused), change(0, "a", 7, refused), move(0, p, refused))
		}
		counts(t, x, 0)
	}
}

// P11.1, P11.4: a tree of one shape: the one that came first, whichever that is.
func TestOneShape(t *testing.T) {
	for _, p := range []uint64{0, 7, math.MaxUint64} {
		x := shapes.New(1)
		play(t, x, root(p, 0), root(p, 0), root(p+1, refused), add(0, "", 0, refused), change(0, "", 0, refused), move(0, p, 0), move(0, p+1, refused), root(p, 0))
		counts(t, x, 1)
		has(t, x, 0, p)
	}
}

// P11.1: numbers are given in the order in which shapes came, by whichever call; the greatest room takes as many as come.
func TestNumbers(t *testing.T) {
	for _, most := range []int{8, 9, 256, 1 << 32, math.MaxInt} {
		x := shapes.New(most)
		counts(t, x, 0)
		play(t, x, root(3, 0), root(1, 1), add(1, "x", 1, 2), root(2, 3), add(0, "x", 1, 4), change(4, "x", 2, 5), move(4, 9, 7), root(9, 6))
		counts(t, x, 8)
	}
	x := shapes.New(math.MaxInt)
	for n := range 3000 {
		if got, ok := x.Root(uint64(n) * 3); got != n || !ok {
			t.Fatal("root", n, "is", got, ok)
		}
	}
	counts(t, x, 3000)
}

// P11.2, P11.4: the last shape that there is room for, and the one behind it, for each call; what is known is told without room.
func TestLastRoom(t *testing.T) {
	ahead := []call{root(7, 0), add(0, "a", 7, 1), add(1, "b", 5, 2)}
	for _, k := range []struct{ last, more call }{
		{root(8, 3), root(9, refused)},
		{add(2, "c", 1, 3), add(3, "d", 1, refused)},
		{add(1, "c", 1, 3), add(1, "c", 2, refused)},
		{change(2, "a", 1, 3), change(2, "a", 2, refused)},
		{change(2, "a", 1, 3), change(3, "b", 1, refused)},
		{move(0, 8, 3), move(0, 9, refused)},
		{move(0, 8, 3), move(1, 8, refused)},
	} {
		x := shapes.New(4)
		play(t, x, ahead...)
		play(t, x, k.last)
		counts(t, x, 4)
		for range 2 { // one behind the last of each kind is refused; all that is known is told
			play(t, x, k.more, root(99, refused), add(2, "z", 1, refused), change(2, "b", 99, refused), move(0, 99, refused), move(2, 99, refused), k.last)
			play(t, x, ahead...)
			play(t, x, move(2, 7, 2), change(2, "b", 5, 2), change(1, "a", 7, 1))
		}
		counts(t, x, 4)
	}
}

// P11.2: what there is no room for stays so, and is not known for having been wished.
func TestRefusedIsNotKnown(t *testing.T) {
	x := shapes.New(2)
	play(t, x, root(7, 0), add(0, "a", 7, 1))
	for range 3 {
		play(t, x, add(0, "b", 7, refused), change(1, "a", 0, refused), root(0, refused), move(1, 0, refused))
	}
	counts(t, x, 2)
	has(t, x, 0, 7)
	has(t, x, 1, 7, "a", 7)
}

// P11.2: a Move that is refused: what came ahead of the refused step stays, wherever that is.
func TestMoveHalfWay(t *testing.T) {
	for most := 4; most <= 9; most++ {
		x := shapes.New(most)
		play(t, x, root(7, 0), add(0, "a", 1, 1), add(1, "b", 2, 2), add(2, "c", 3, 3))
		want := refused
		if most >= 8 {
			want = 7
		}
		play(t, x, move(3, 8, want), move(3, 8, want))
		counts(t, x, min(most, 8))
		props := []any{"a", 1, "b", 2, "c", 3}
		for n := 4; n < x.Count(); n++ {
			has(t, x, n, 8, props[:2*(n-4)]...)
		}
		if most == 6 { // the shapes that it left are those of the same steps
			play(t, x, root(8, 4), add(4, "a", 1, 5), add(4, "a", 2, refused), add(5, "b", 2, refused), move(1, 8, 5), move(2, 8, refused))
		}
	}
}

// P11.2: a Move along steps that are known, where there is no room, or room for the last step alone.
func TestMoveKnown(t *testing.T) {
	ahead := []call{root(7, 0), add(0, "a", 1, 1), add(1, "b", 2, 2), root(8, 3), add(3, "a", 1, 4)}
	x := shapes.New(5)
	play(t, x, ahead...)
	play(t, x, move(0, 8, 3), move(1, 8, 4), move(2, 8, refused), move(4, 7, 1), move(3, 7, 0), move(2, 7, 2))
	counts(t, x, 5)
	x = shapes.New(6)
	play(t, x, ahead...)
	play(t, x, move(2, 8, 5), move(2, 8, 5), move(5, 7, 2), move(5, 9, refused))
	counts(t, x, 6)
}

// R1: a tree that New did not make takes no shapes.
func TestNoTree(t *testing.T) {
	for _, x := range []*shapes.Tree{nil, {}} {
		play(t, x, root(0, refused), root(7, refused), add(0, "", 0, refused), change(0, "", 0, refused), move(0, 0, refused))
		wrong(t, x)
		counts(t, x, 0)
	}
}

// P11.1: trees know nothing of each other.
func TestTwoTrees(t *testing.T) {
	x, y := shapes.New(9), shapes.New(2)
	play(t, x, root(1, 0), add(0, "a", 1, 1), add(1, "b", 1, 2))
	counts(t, y, 0)
	play(t, y, root(2, 0), add(0, "b", 2, 1), root(1, refused))
	play(t, x, root(2, 3))
	has(t, x, 1, 1, "a", 1)
	has(t, y, 1, 2, "b", 2)
}
