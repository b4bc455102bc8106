package fuse_test

import (
	"math"
	"slices"
	"testing"

	"brazier/api"
	"brazier/fuse"
)

// stands: Where tells this.
func stands(t *testing.T, l []api.Group, at, i, far int, ok bool) {
	t.Helper()
	if i2, far2, ok2 := fuse.Where(l, at); i2 != i || far2 != far || ok2 != ok {
		t.Errorf("Where(%v, %d) is %d %d %t, not %d %d %t", l, at, i2, far2, ok2, i, far, ok)
	}
}

// P10.2: each place of groups that stand one behind the other, and those outside.
func TestWhereInCode(t *testing.T) {
	l := groups(api.GroupArith, api.GroupOne, api.GroupTest, api.GroupFree, api.GroupOne, api.GroupMoves)
	at := 0
	for i, g := range l {
		for far := range g.Len {
			stands(t, l, at, i, far, true)
			at++
		}
	}
	for _, at := range []int{at, at + 1, 1000, math.MaxInt - 1, math.MaxInt, -1, -2, -1000, math.MinInt, math.MinInt + 1} {
		stands(t, l, at, 0, 0, false)
	}
}

// P10.2: no groups at all.
func TestWhereNone(t *testing.T) {
	for _, at := range []int{math.MinInt, -1, 0, 1, math.MaxInt} {
		stands(t, nil, at, 0, 0, false)
		stands(t, []api.Group{}, at, 0, 0, false)
	}
}

// P10.2: groups that lie over one another, stand apart or in any order: the first in the list is told; what kind it is does not matter.
func TestWhereFirst(t *testing.T) {
	over := []api.Group{{At: 2, Len: 3, Kind: 1}, {At: 0, Len: 9, Kind: -4}, {At: 4, Len: 10, Kind: 77}}
	for at, want := range [][2]int{{1, 0}, {1, 1}, {0, 0}, {0, 1}, {0, 2}, {1, 5}, {1, 6}, {1, 7}, {1, 8}, {2, 5}, {2, 6}, {2, 7}, {2, 8}, {2, 9}} {
		stands(t, over, at, want[0], want[1], true)
	}
	stands(t, over, 14, 0, 0, false)
	apart := []api.Group{{At: 10, Len: 2}, {At: 5, Len: 1}, {At: -3, Len: 2}}
	for at, want := range map[int][2]int{10: {0, 0}, 11: {0, 1}, 5: {1, 0}, -3: {2, 0}, -2: {2, 1}} {
		stands(t, apart, at, want[0], want[1], true)
	}
	for _, at := range []int{-4, -1, 0, 4, 6, 9, 12} {
		stands(t, apart, at, 0, 0, false)
	}
	twice := []api.Group{{At: 1, Len: 2}, {At: 1, Len: 2}}
	stands(t, twice, 2, 0, 1, true)
}

// P10.2: in a group with a Len of 0 or below nothing stands.
func TestWhereEmpty(t *testing.T) {
	for _, n := range []int{0, -1, -2, -9, math.MinInt, math.MinInt + 1} {
		for _, from := range []int{math.MinInt, math.MinInt + 1, -1, 0, 5, math.MaxInt - 1, math.MaxInt} {
			for _, at := range []int{math.MinInt, -2, -1, 0, 4, 5, 6, math.MaxInt - 1, math.MaxInt} {
				stands(t, []api.Group{{At: from, Len: n}}, at, 0, 0, false)
				stands(t, []api.Group{{At: from, Len: n}, {At: at, Len: 1}}, at, 1, 0, true)
			}
		}
	}
}

// P10.2: groups whose end is beyond the numbers.
func TestWhereAtTheEndsOfNumbers(t *testing.T) {
	top := []api.Group{{At: math.MaxInt - 1, Len: 2}}
	stands(t, top, math.MaxInt-2, 0, 0, false)
	stands(t, top, math.MaxInt-1, 0, 0, true)
	stands(t, top, math.MaxInt, 0, 1, true)
	stands(t, top, math.MinInt, 0, 0, false)
	beyond := []api.Group{{At: 5, Len: math.MaxInt}}
	stands(t, beyond, 4, 0, 0, false)
	stands(t, beyond, 5, 0, 0, true)
	stands(t, beyond, math.MaxInt, 0, math.MaxInt-5, true)
	stands(t, beyond, math.MinInt, 0, 0, false)
	low := []api.Group{{At: math.MinInt, Len: math.MaxInt}}
	stands(t, low, math.MinInt, 0, 0, true)
	stands(t, low, -2, 0, math.MaxInt-1, true)
	stands(t, low, -1, 0, 0, false)
	stands(t, low, math.MaxInt, 0, 0, false)
	stands(t, []api.Group{{At: math.MinInt, Len: 1}}, math.MaxInt, 0, 0, false)
	stands(t, []api.Group{{At: -1, Len: math.MaxInt}}, math.MaxInt-2, 0, math.MaxInt-1, true)
	stands(t, []api.Group{{At: -1, Len: math.MaxInt}}, math.MaxInt-1, 0, 0, false)
}

// R4, R6: the list stays as it was, and the same is told again.
func TestWhereRules(t *testing.T) {
	l := groups(kinds...)
	was := slices.Clone(l)
	for range 2 {
		stands(t, l, 4, 1, 1, true)
	}
	if !slices.Equal(l, was) {
		t.Error("the list is not as it was")
	}
}
