package soft_test

import (
	"math"
	"slices"
	"testing"

	"brazier/soft"
)

// P1.7

func TestNoOrderOfBoth(t *testing.T) {
	pairs(func(a, b uint64) {
		want(t, "Add", soft.Add(a, b), soft.Add(b, a), a, b)
		want(t, "Mul", soft.Mul(a, b), soft.Mul(b, a), a, b)
	})
}

// rising is numbers, each above the one ahead, or the other 0.
func rising() []uint64 {
	c := chance(6)
	l := edges()
	for range 600 {
		a := c.number()
		l = append(l, a, a+1, a^neg0)
	}
	l = slices.DeleteFunc(l, soft.IsNaN)
	slices.SortFunc(l, func(a, b uint64) int {
		switch {
		case float(a) < float(b):
			return -1
		case float(a) > float(b):
			return 1
		}
		return 0
	})
	return l
}

func TestNothingFalls(t *testing.T) {
	l := rising()
	for _, c := range edges() {
		if soft.IsNaN(c) {
			continue
		}
		stays(t, "Add", l, c, soft.Add)
		if soft.Less(0, c) {
			stays(t, "Mul", l, c, soft.Mul)
		}
	}
}

// stays: what f makes of each and c is never below what it made ahead; NaN aside.
func stays(t *testing.T, what string, l []uint64, c uint64, f func(a, b uint64) uint64) {
	t.Helper()
	last := uint64(ninf)
	for _, a := range l {
		got := f(a, c)
		if soft.IsNaN(got) {
			continue
		}
		if soft.Less(got, last) {
			t.Errorf("%s of %x and %x falls: %x behind %x", what, a, c, got, last)
		}
		last = got
	}
}

func TestWholeAndWhatIsLeft(t *testing.T) {
	singles(func(a uint64) {
		whole := soft.Trunc(a)
		left := soft.Sub(a, whole)
		rem := soft.Rem(a, one)
		if left != rem && !(left<<1 == 0 && rem<<1 == 0) {
			t.Errorf("%x: %x is left, Rem is %x", a, left, rem)
		}
		if finite(a) && !soft.Equal(soft.Add(whole, left), a) {
			t.Errorf("%x is not %x and %x", a, whole, left)
		}
	})
}

// R1 and R6: any bits are taken, and the same calls tell the same.
func TestTheSameTwice(t *testing.T) {
	pairs(func(a, b uint64) {
		exp, odd := int(int64(b)), a&1 == 1
		want(t, "Near", soft.Near(a, exp, odd), soft.Near(a, exp, odd), a, b)
		if exp > 2000 && a > 0 {
			want(t, "Near", soft.Near(a, exp, odd), inf, a, b)
		}
		if exp < -2000 {
			want(t, "Near", soft.Near(a, exp, odd), 0, a, b)
		}
	})
	want(t, "Near", soft.Near(math.MaxUint64, math.MaxInt, true), inf)
}
