package cells_test

import (
	"testing"

	"brazier/cells"
)

// P12.1, P12.2: the chapter's example.
func TestExample(t *testing.T) {
	x := cells.New()
	play(t, x, laid(-1, 0), laid(0, 1), laid(-1, 2), broke(0, 2))
	valid(t, x, 2)
	play(t, x, broke(1, 0), laid(0, 3))
	valid(t, x, 2)
	counts(t, x, 4)
}

// P12.2: cells made and broken by turns.
func TestBreakByTurns(t *testing.T) {
	x := cells.New()
	play(t, x, laid(-1, 0), broke(0, 1), laid(-1, 1), laid(1, 2), broke(2, 1), laid(1, 3), laid(3, 4), broke(4, 1), broke(3, 1), laid(1, 5), broke(1, 2))
	valid(t, x)
	play(t, x, laid(-1, 6), laid(6, 7), laid(6, 8), laid(7, 9), broke(8, 1), laid(9, 10), broke(7, 3))
	valid(t, x, 6)
}

// P12.2: a chain, broken at each of its cells: that one and all on top of it, none below it.
func TestBreakChain(t *testing.T) {
	const n = 12
	for at := range n {
		x := cells.New()
		for i := range n {
			play(t, x, laid(i-1, i))
		}
		play(t, x, broke(at, n-at), broke(at, 0), broke(n-1, 0))
		for i := range n {
			if x.Valid(i) != (i < at) {
				t.Error("broken at", at, "is", i, x.Valid(i))
			}
		}
		play(t, x, broke(0, at))
		valid(t, x)
	}
}

// P12.2: many on one: each broken by itself, then what is left by the one below.
func TestBreakMany(t *testing.T) {
	const n = 12
	for some := range n + 1 {
		x := cells.New()
		play(t, x, laid(-1, 0))
		for i := range n {
			play(t, x, laid(0, i+1))
		}
		for i := range some {
			play(t, x, broke(1+(i*5)%n, 1))
		}
		play(t, x, broke(0, 1+n-some), broke(0, 0))
		valid(t, x)
	}
}

// P12.2, P12.3: a tree, broken at each of its cells: just those on top of it are.
func TestBreakTree(t *testing.T) {
	on := []int{-1, 0, 0, 1, 1, 2, 2, 5, 7, -1, 9, 9, 4}
	above := [][]int{{0, 1, 2, 3, 4, 5, 6, 7, 8, 12}, {1, 3, 4, 12}, {2, 5, 6, 7, 8}, {3}, {4, 12}, {5, 7, 8}, {6}, {7, 8}, {8}, {9, 10, 11}, {10}, {11}, {12}}
	for at, gone := range above {
		x := cells.New()
		for n, o := range on {
			play(t, x, laid(o, n))
		}
		play(t, x, broke(at, len(gone)))
		left := []int{}
		for n := range on {
			if len(gone) > 0 && gone[0] == n {
				gone = gone[1:]
				continue
			}
			left = append(left, n)
		}
		valid(t, x, left...)
	}
}

// P12.2: the first cell and the last one.
func TestBreakEnds(t *testing.T) {
	x := cells.New()
	play(t, x, laid(-1, 0), laid(-1, 1), laid(0, 2), laid(1, 3), broke(3, 1), broke(0, 2))
	valid(t, x, 1)
	play(t, x, laid(1, 4), broke(4, 1), broke(3, 0), broke(1, 1))
	valid(t, x)
}

// P12.2: of one that is not valid: 0, whether it was broken, stood on a broken one, or was never valid.
func TestBreakInvalid(t *testing.T) {
	x := cells.New()
	play(t, x, laid(-1, 0), laid(0, 1), laid(1, 2), laid(-1, 3), broke(1, 2), laid(2, 4), laid(99, 5), laid(5, 6))
	for range 3 {
		for _, n := range []int{1, 2, 4, 5, 6} {
			play(t, x, broke(n, 0))
		}
	}
	valid(t, x, 0, 3)
}

// P12.2: one on top is broken already, and others stand on that one: these count no second time, those beside it do, wherever it stands among them.
func TestBreakOverBroken(t *testing.T) {
	for at := 1; at <= 3; at++ {
		x := cells.New()
		play(t, x, laid(-1, 0), laid(0, 1), laid(0, 2), laid(0, 3), laid(1, 4), laid(2, 5), laid(3, 6), laid(4, 7), laid(5, 8), laid(6, 9))
		play(t, x, broke(at, 3), laid(at, 10), laid(10, 11), broke(0, 7))
		valid(t, x)
	}
	x := cells.New()
	play(t, x, laid(-1, 0), laid(0, 1), laid(1, 2), laid(2, 3), laid(1, 4), broke(2, 2), laid(1, 5), broke(0, 4))
	valid(t, x)
}

// P12.2: a Make behind a Break: on what is left the next Break finds it.
func TestMakeBehindBreak(t *testing.T) {
	x := cells.New()
	play(t, x, laid(-1, 0), laid(0, 1), laid(0, 2))
	for n := 3; n < 40; n++ {
		play(t, x, broke(n-1, 1), laid(0, n))
	}
	valid(t, x, 0, 1, 39)
	play(t, x, laid(1, 40), laid(39, 41), broke(0, 5))
	valid(t, x)
}

// P12.2: over however many: a chain and a row that are long, and a ladder of both; what is taken must not be their square.
func TestBreakLong(t *testing.T) {
	const n = 300000
	for name, on := range map[string]func(i int) int{
		"chain":  func(i int) int { return i - 1 },
		"row":    func(i int) int { return 0 },
		"ladder": func(i int) int { return (i - 1) / 2 * 2 },
		"tree":   func(i int) int { return (i - 1) / 2 },
	} {
		x := cells.New()
		x.Make(-1)
		for i := 1; i < n; i++ {
			if got := x.Make(on(i)); got != i {
				t.Fatal(name, i, got)
			}
		}
		if !x.Valid(n - 1) {
			t.Error(name, "is not valid")
		}
		if got := x.Break(0); got != n || x.Break(n-1) != 0 || x.Count() != n {
			t.Error(name, "breaks", got)
		}
		for i := range n {
			if x.Valid(i) {
				t.Fatal(name, i, "is valid")
			}
		}
	}
}

// P12.2: many on one, broken from the last and from the first on, then the one below: each is gone by once.
func TestBreakLongByOnes(t *testing.T) {
	const n = 300000
	for _, first := range []bool{true, false} {
		x := cells.New()
		x.Make(-1)
		for i := 1; i < n; i++ {
			x.Make(0)
		}
		for i := 1; i < n-1; i++ {
			at := i
			if !first {
				at = n - i
			}
			if got := x.Break(at); got != 1 {
				t.Fatal(at, "breaks", got)
			}
		}
		if got := x.Break(0); got != 2 {
			t.Error("the one below breaks", got)
		}
	}
	x := cells.New()
	for i := range n {
		x.Make(i - 1)
	}
	for i := n - 1; i >= 0; i-- {
		if got := x.Break(i); got != 1 {
			t.Fatal("of the chain", i, "breaks", got)
		}
	}
}
