package cells_test

import (
	"fmt"
	"math"
	"slices"
	"testing"

	"brazier/cells"
)

// call is a Make on, or a Break of, a cell, and what it is to tell.
type call struct {
	name string
	of   int
	want int
}

func (c call) String() string { return fmt.Sprintf("%s(%d), that is to tell %d", c.name, c.of, c.want) }

func laid(on, want int) call { return call{"Make", on, want} }

func broke(cell, want int) call { return call{"Break", cell, want} }

func (c call) do(x *cells.Cells) int {
	if c.name == "Make" {
		return x.Make(c.of)
	}
	return x.Break(c.of)
}

// look is which cells are valid.
func look(x *cells.Cells) []bool {
	all := make([]bool, x.Count())
	for n := range all {
		all[n] = x.Valid(n)
	}
	return all
}

// lost is how many were valid and are not, or -1, if one became valid, or one is gone.
func lost(old, now []bool) int {
	if len(now) < len(old) {
		return -1
	}
	n := 0
	for i, was := range old {
		switch {
		case was && !now[i]:
			n++
		case !was && now[i]:
			return -1
		}
	}
	return n
}

// play makes calls, one behind the other: each tells what is wanted; a Make adds one cell and changes no other, a Break makes as many invalid as it tells, and no call makes one valid again.
func play(t *testing.T, x *cells.Cells, calls ...call) {
	t.Helper()
	for i, c := range calls {
		old := look(x)
		if got := c.do(x); got != c.want {
			t.Fatalf("call %d: %v tells %d", i, c, got)
		}
		now := look(x)
		gone, more := 0, 1
		if c.name == "Break" {
			gone, more = c.want, 0
		}
		if lost(old, now) != gone || len(now) != len(old)+more {
			t.Fatalf("call %d: %v: behind it %v, ahead of it %v", i, c, now, old)
		}
	}
}

// valid tells that just these cells are.
func valid(t *testing.T, x *cells.Cells, want ...int) {
	t.Helper()
	var got []int
	for n, is := range look(x) {
		if is {
			got = append(got, n)
		}
	}
	if !slices.Equal(got, want) {
		t.Errorf("valid are %v, not %v", got, want)
	}
}

// counts tells that so many were made.
func counts(t *testing.T, x *cells.Cells, want int) {
	t.Helper()
	if got := x.Count(); got != want {
		t.Errorf("Count is %d, not %d", got, want)
	}
}

// absent are numbers that no cell has.
func absent(x *cells.Cells) []int {
	n := x.Count()
	return []int{math.MinInt, math.MinInt + 1, -1 << 32, -n - 1, -3, -2, -1, n, n + 1, 2*n + 7, 1 << 32, math.MaxInt - 1, math.MaxInt}
}

// chance is a row of numbers that is always the same one.
type chance uint64

func (c *chance) below(n int) int {
	*c = *c*6364136223846793005 + 1442695040888963407
	return int(uint64(*c)>>33) % n
}
