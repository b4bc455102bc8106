package cells_test

import (
	"math"
	"testing"

	"brazier/cells"
)

// P12.1: none, to begin with; then each Make tells the next number, whatever it is on; those on nothing are valid.
func TestMakeNumbers(t *testing.T) {
	x := cells.New()
	counts(t, x, 0)
	for n := range 1000 {
		if x.Valid(n) {
			t.Fatal("valid ahead of its Make:", n)
		}
		if got := x.Make(-1); got != n || !x.Valid(n) {
			t.Fatal("cell", n, "is", got, x.Valid(n))
		}
		counts(t, x, n+1)
	}
	for n := range 1000 {
		if !x.Valid(n) {
			t.Error("not valid any more:", n)
		}
	}
}

// P12.1: on top of one that is valid: valid; many on one, one on the other, on any that there is.
func TestMakeOnValid(t *testing.T) {
	x := cells.New()
	play(t, x, laid(-1, 0), laid(0, 1), laid(0, 2), laid(0, 3), laid(3, 4), laid(4, 5), laid(-1, 6), laid(6, 7), laid(1, 8))
	valid(t, x, 0, 1, 2, 3, 4, 5, 6, 7, 8)
	counts(t, x, 9)
}

// P12.1: on top of one that is broken, by itself or by one below it: not valid, nor is what comes on top of that.
func TestMakeOnBroken(t *testing.T) {
	x := cells.New()
	play(t, x, laid(-1, 0), laid(0, 1), laid(1, 2), broke(0, 3))
	play(t, x, laid(0, 3), laid(1, 4), laid(2, 5), laid(5, 6), laid(6, 7), laid(-1, 8))
	valid(t, x, 8)
	counts(t, x, 9)
	for n := range 8 {
		play(t, x, broke(n, 0))
	}
	valid(t, x, 8)
}

// P12.1: on top of one that is not there, below -1 and beyond the last: never valid, and nothing on top of it either.
func TestMakeOnAbsent(t *testing.T) {
	for _, ahead := range [][]call{{}, {laid(-1, 0)}, {laid(-1, 0), laid(0, 1), laid(-1, 2)}} {
		x := cells.New()
		play(t, x, ahead...)
		start := x.Count()
		for _, on := range absent(x) {
			if on == -1 {
				continue
			}
			n := x.Count()
			// The numbers of the cells that this loop made are there by now, but not valid: it is all the same.
			play(t, x, laid(on, n), laid(n, n+1), broke(n, 0), broke(n+1, 0))
			if x.Valid(n) || x.Valid(n+1) {
				t.Error("valid, on", on)
			}
		}
		for n := range start {
			if !x.Valid(n) {
				t.Error("not valid any more:", n)
			}
		}
	}
}

// P12.1: on -2 as the very first, and on both ends of the numbers, each among none.
func TestMakeFirstOnAbsent(t *testing.T) {
	for _, on := range []int{math.MinInt, -2, 0, 1, math.MaxInt} {
		x := cells.New()
		play(t, x, laid(on, 0))
		valid(t, x)
		play(t, x, laid(0, 1), laid(-1, 2), laid(2, 3))
		valid(t, x, 2, 3)
		play(t, x, broke(0, 0), broke(2, 2))
	}
}

// P12.1: on one that comes later: not valid ahead of that, nor behind it, nor is it broken with it.
func TestMakeOnLater(t *testing.T) {
	x := cells.New()
	play(t, x, laid(2, 0), laid(0, 1), laid(-1, 2), laid(2, 3))
	valid(t, x, 2, 3)
	play(t, x, laid(0, 4), laid(1, 5))
	valid(t, x, 2, 3)
	play(t, x, broke(0, 0), broke(2, 2))
	valid(t, x)
}

// P12.1: on itself, by the next number: never valid, and a Break of it ends.
func TestMakeOnItself(t *testing.T) {
	for ahead := range 4 {
		x := cells.New()
		for n := range ahead {
			play(t, x, laid(-1, n))
		}
		play(t, x, laid(ahead, ahead), broke(ahead, 0), laid(ahead, ahead+1), broke(ahead, 0), broke(ahead+1, 0))
		if x.Valid(ahead) || x.Valid(ahead+1) {
			t.Error("valid on itself:", ahead)
		}
		for n := range ahead {
			play(t, x, broke(n, 1))
		}
	}
}

// P12.1: two that are on each other, the first ahead of the second.
func TestMakeRound(t *testing.T) {
	x := cells.New()
	play(t, x, laid(1, 0), laid(0, 1), broke(0, 0), broke(1, 0), laid(3, 2), laid(2, 3), broke(3, 0))
	valid(t, x)
	counts(t, x, 4)
}

// P12.1, P12.2: cells that are not there, for each call, in a row of none, of some, of broken ones: nothing is changed.
func TestAbsent(t *testing.T) {
	x := cells.New()
	for _, c := range []call{laid(-1, 0), laid(0, 1), laid(-1, 2), laid(7, 3), broke(0, 2), laid(1, 4), laid(2, 5), broke(5, 1), broke(2, 1)} {
		wrong(t, x)
		play(t, x, c)
	}
	wrong(t, x)
}

// wrong asks for cells that are not there, and breaks them.
func wrong(t *testing.T, x *cells.Cells) {
	t.Helper()
	count := x.Count()
	for _, n := range absent(x) {
		if x.Valid(n) {
			t.Errorf("valid, of %d: %d", count, n)
		}
		play(t, x, broke(n, 0), broke(n, 0))
		if x.Valid(n) {
			t.Errorf("valid behind a Break, of %d: %d", count, n)
		}
	}
	counts(t, x, count)
}

// P12.2: what was broken ahead of its Make is not broken by that.
func TestMakeBehindBreakOfAbsent(t *testing.T) {
	x := cells.New()
	play(t, x, broke(0, 0), broke(1, 0), broke(-1, 0), laid(-1, 0), laid(0, 1))
	valid(t, x, 0, 1)
	play(t, x, broke(2, 0), laid(1, 2))
	valid(t, x, 0, 1, 2)
}

// P12.1: Valid and Count change nothing, however often they are asked.
func TestTellingChangesNothing(t *testing.T) {
	x := cells.New()
	play(t, x, laid(-1, 0), laid(0, 1), laid(-1, 2), broke(2, 1))
	for range 50 {
		for n := -2; n < 5; n++ {
			if x.Valid(n) != (n == 0 || n == 1) {
				t.Fatal("valid:", n, x.Valid(n))
			}
		}
		counts(t, x, 3)
	}
	play(t, x, laid(1, 3), broke(0, 3))
}

// P12.1: rows of cells know nothing of each other.
func TestTwoRows(t *testing.T) {
	x, y := cells.New(), cells.New()
	play(t, x, laid(-1, 0), laid(0, 1))
	counts(t, y, 0)
	play(t, y, laid(-1, 0), laid(-1, 1), broke(0, 1))
	valid(t, x, 0, 1)
	play(t, x, broke(0, 2))
	valid(t, y, 1)
}

// R1: cells that New did not make: without any, or as New's.
func TestWithoutNew(t *testing.T) {
	var x *cells.Cells
	for _, n := range []int{math.MinInt, -1, 0, 1, math.MaxInt} {
		if x.Make(n) != 0 || x.Valid(n) || x.Break(n) != 0 || x.Count() != 0 {
			t.Error("none at all, asked for", n)
		}
	}
	x = &cells.Cells{}
	wrong(t, x)
	play(t, x, laid(-1, 0), laid(0, 1), broke(0, 2), laid(0, 2))
	valid(t, x)
}
