package caches_test

import (
	"math"
	"testing"

	"brazier/api"
	"brazier/caches"
	"brazier/cells"
)

// P15.2: the chapter's example.
func TestLearnExample(t *testing.T) {
	s := learns(t, api.Site{}, free(1), no, frees(api.SiteOne, 1))
	s = learns(t, s, free(2), no, frees(api.SiteFew, 1, 2))
	s = learns(t, s, free(1), no, frees(api.SiteFew, 2, 1))
	s = learns(t, s, free(3), no, frees(api.SiteFew, 2, 1, 3))
	s = learns(t, s, free(4), no, frees(api.SiteFew, 2, 1, 3, 4))
	s = learns(t, s, free(5), no, site(api.SiteMany))
	learns(t, s, free(1), no, site(api.SiteMany))
}

// P15.2: a few shapes by turns, with cells and without; what breaks on the way is left out by the next Learn.
func TestLearnBehindBreaks(t *testing.T) {
	c := cells.New()
	for range 4 {
		c.Make(-1)
	}
	s := learns(t, api.Site{}, on(1, 0), c.Valid, site(api.SiteOne, on(1, 0)))
	s = learns(t, s, on(2, 1), c.Valid, site(api.SiteFew, on(1, 0), on(2, 1)))
	s = learns(t, s, free(3), c.Valid, site(api.SiteFew, on(1, 0), on(2, 1), free(3)))
	s = learns(t, s, on(4, 0), c.Valid, site(api.SiteFew, on(1, 0), on(2, 1), free(3), on(4, 0)))
	c.Break(0)
	s = learns(t, s, on(1, 2), c.Valid, site(api.SiteFew, on(2, 1), free(3), on(1, 2)))
	s = learns(t, s, on(5, 3), c.Valid, site(api.SiteFew, on(2, 1), free(3), on(1, 2), on(5, 3)))
	c.Break(1)
	c.Break(3)
	s = learns(t, s, free(6), c.Valid, site(api.SiteFew, free(3), on(1, 2), free(6)))
	s = learns(t, s, on(7, 2), c.Valid, site(api.SiteFew, free(3), on(1, 2), free(6), on(7, 2)))
	learns(t, s, free(8), c.Valid, site(api.SiteMany))
}

// P15.2: a SiteOne whose entry broke is left with the new one, and is SiteOne.
func TestLearnStaysOne(t *testing.T) {
	s := site(api.SiteOne, on(1, 4))
	learns(t, s, free(1), yes, frees(api.SiteOne, 1))
	learns(t, s, free(1), no, frees(api.SiteOne, 1))
	learns(t, s, free(2), but(4), frees(api.SiteOne, 2))
	learns(t, s, on(2, 5), but(4), site(api.SiteOne, on(2, 5)))
	learns(t, s, free(2), but(5), site(api.SiteFew, on(1, 4), free(2)))
}

// P15.2: a SiteFew that is left with one entry stays SiteFew.
func TestLearnStaysFew(t *testing.T) {
	s := site(api.SiteFew, on(1, 4), on(2, 5))
	s = learns(t, s, free(3), but(4, 5), frees(api.SiteFew, 3))
	s = learns(t, s, free(3), no, frees(api.SiteFew, 3))
	learns(t, s, free(1), no, frees(api.SiteFew, 3, 1))
	learns(t, site(api.SiteFew), free(1), yes, frees(api.SiteFew, 1))
	learns(t, site(api.SiteFew, on(1, 2), on(1, 3)), free(1), yes, frees(api.SiteFew, 1))
}

// P15.2: an entry that does not hold itself is learnt all the same, and is left out by the next Learn.
func TestLearnWhatDoesNotHold(t *testing.T) {
	s := learns(t, api.Site{}, on(1, 9), but(9), site(api.SiteOne, on(1, 9)))
	misses(t, s, 1, but(9))
	learns(t, s, on(1, 9), but(9), site(api.SiteOne, on(1, 9)))
	learns(t, s, on(2, 9), but(9), site(api.SiteOne, on(2, 9)))
	s = learns(t, frees(api.SiteOne, 1), on(2, 9), but(9), site(api.SiteFew, free(1), on(2, 9)))
	learns(t, s, free(3), but(9), frees(api.SiteFew, 1, 3))
	learns(t, frees(api.SiteFew, 1, 2, 3), on(4, 9), but(9), site(api.SiteFew, free(1), free(2), free(3), on(4, 9)))
	learns(t, frees(api.SiteFew, 1, 2, 3, 4), on(5, 9), but(9), site(api.SiteMany))
	// One that takes the place of a good one of its shape.
	learns(t, frees(api.SiteOne, 1), on(1, 9), but(9), site(api.SiteOne, on(1, 9)))
}

// P15.2: three, four and five that hold, with those that don't among them, and with one of the new one's shape.
func TestLearnUpToMost(t *testing.T) {
	learns(t, frees(api.SiteFew, 1, 2), free(3), no, frees(api.SiteFew, 1, 2, 3))
	learns(t, frees(api.SiteFew, 1, 2, 3), free(4), no, frees(api.SiteFew, 1, 2, 3, 4))
	learns(t, frees(api.SiteFew, 1, 2, 3, 4), free(5), no, site(api.SiteMany))
	learns(t, frees(api.SiteFew, 1, 2, 3, 4), free(3), no, frees(api.SiteFew, 1, 2, 4, 3))
	learns(t, frees(api.SiteFew, 1, 2, 3, 4), free(1), no, frees(api.SiteFew, 2, 3, 4, 1))
	learns(t, frees(api.SiteFew, 1, 2, 3, 4), free(4), no, frees(api.SiteFew, 1, 2, 3, 4))
	learns(t, site(api.SiteFew, free(1), on(2, 3), free(3), free(4)), free(5), no, frees(api.SiteFew, 1, 3, 4, 5))
	learns(t, site(api.SiteFew, free(1), on(2, 3), free(3), free(4)), free(5), yes, site(api.SiteMany))
}

// P15.2: two entries of one shape: both stay, if they are of another shape than the new one and hold; else both go.
func TestLearnTwoOfOneShape(t *testing.T) {
	s := site(api.SiteFew, on(1, 1), on(1, 2))
	learns(t, s, free(2), yes, site(api.SiteFew, on(1, 1), on(1, 2), free(2)))
	learns(t, s, free(2), but(1), site(api.SiteFew, on(1, 2), free(2)))
	learns(t, s, free(2), but(2), site(api.SiteFew, on(1, 1), free(2)))
	learns(t, s, free(1), yes, frees(api.SiteFew, 1))
	s = site(api.SiteFew, on(1, 1), on(1, 2), free(1), on(1, 3))
	learns(t, s, free(2), yes, site(api.SiteMany))
	learns(t, s, free(2), but(3), site(api.SiteFew, on(1, 1), on(1, 2), free(1), free(2)))
}

// P15.2: an entry of the same shape gives way to the new one, the whole of it, also if it is a better one.
func TestLearnAnew(t *testing.T) {
	was, is := api.Entry{Shape: 1, Holder: 0, Slot: 2, Cell: -1}, api.Entry{Shape: 1, Holder: 3, Slot: 5, Cell: 6}
	learns(t, site(api.SiteOne, was), is, yes, site(api.SiteOne, is))
	learns(t, site(api.SiteOne, is), was, yes, site(api.SiteOne, was))
	learns(t, site(api.SiteFew, was, free(2)), is, no, site(api.SiteFew, free(2), is))
}

// P15.2: of a SiteMany: without entries, also if it has some.
func TestLearnOfMany(t *testing.T) {
	for _, s := range []api.Site{site(api.SiteMany), frees(api.SiteMany, 1), frees(api.SiteMany, 1, 2), site(api.SiteMany, on(1, 4), on(2, 4))} {
		for _, e := range []api.Entry{free(1), free(3), on(1, 4), {}} {
			for _, valid := range []asks{yes, no, nil, panics} {
				if got := learns(t, s, e, valid, site(api.SiteMany)); got.Entries != nil {
					t.Errorf("Learn(%v, %v) has a row", s, e)
				}
			}
		}
	}
}

// What one of a site's entries is to a new one: it stays only if it is of another shape and holds.
const (
	stays       = 0
	broke       = 1
	sameShape   = 2
	sameAndGone = 3
	kinds       = 4
)

// P15.2: each row of up to six entries, each of which stays, is broken, is of the same shape, or both; of each state, those that there are not too.
func TestLearnEachRow(t *testing.T) {
	const fresh, bad = 50, 13
	for n := range 7 {
		rows := 1 << (2 * n)
		for row := range rows {
			var all, left []api.Entry
			for i, rest := 0, row; i < n; i, rest = i+1, rest/kinds {
				e := on(i+1, 20+i)
				switch rest % kinds {
				case stays:
					left = append(left, e)
				case broke:
					e.Cell = bad
				case sameShape:
					e.Shape = fresh
				case sameAndGone:
					e.Shape, e.Cell = fresh, bad
				}
				all = append(all, e)
			}
			for state := -1; state <= 4; state++ {
				learns(t, site(state, all...), free(fresh), but(bad), wanted(state, append(left, free(fresh))))
			}
		}
	}
}

// wanted is a site that had a state, and is left with these.
func wanted(state int, left []api.Entry) api.Site {
	switch n := len(left); {
	case state == api.SiteMany || n >= 5:
		return site(api.SiteMany)
	case n >= 2 || state == api.SiteFew:
		return site(api.SiteFew, left...)
	}
	return site(api.SiteOne, left...)
}

// P15.2: wrong inputs: states that there are not, which are not SiteMany, nor SiteFew.
func TestLearnWrongState(t *testing.T) {
	for _, state := range wrongStates() {
		learns(t, site(state), free(1), yes, frees(api.SiteOne, 1))
		learns(t, frees(state, 1), free(1), yes, frees(api.SiteOne, 1))
		learns(t, frees(state, 1), free(2), yes, frees(api.SiteFew, 1, 2))
		learns(t, frees(state, 1, 2, 3), free(4), yes, frees(api.SiteFew, 1, 2, 3, 4))
		learns(t, frees(state, 1, 2, 3, 4), free(5), yes, site(api.SiteMany))
	}
	learns(t, frees(api.SiteNew, 1), free(2), yes, frees(api.SiteFew, 1, 2))
	learns(t, frees(api.SiteOne, 1, 2, 3), free(3), yes, frees(api.SiteFew, 1, 2, 3))
}

// P15.2: wrong inputs: more than four entries, shapes below 0, cells below -1.
func TestLearnWrongEntries(t *testing.T) {
	learns(t, frees(api.SiteFew, 1, 2, 3, 4, 5, 6), free(6), yes, site(api.SiteMany))
	learns(t, frees(api.SiteFew, 1, 2, 3, 6, 6, 6), free(6), yes, frees(api.SiteFew, 1, 2, 3, 6))
	learns(t, site(api.SiteOne, on(1, 4), on(2, 4), on(3, 4), on(4, 4), on(5, 4), on(6, 4)), free(7), no, frees(api.SiteOne, 7))
	s := learns(t, api.Site{}, free(-1), yes, frees(api.SiteOne, -1))
	s = learns(t, s, free(math.MinInt), yes, frees(api.SiteFew, -1, math.MinInt))
	s = learns(t, s, on(-1, -2), yes, site(api.SiteFew, free(math.MinInt), on(-1, -2)))
	learns(t, s, free(0), yes, site(api.SiteFew, free(math.MinInt), on(-1, -2), free(0)))
	learns(t, s, free(0), no, site(api.SiteFew, free(math.MinInt), free(0)))
	learns(t, api.Site{}, api.Entry{}, no, site(api.SiteOne, api.Entry{}))
}

// P15.2: an entry without a cell holds, whatever is said of cells; nobody is asked, nor for the new one's cell.
func TestLearnAsksForCells(t *testing.T) {
	var asked []int
	caches.Learn(site(api.SiteFew, free(1), on(2, 6), on(3, -2)), on(4, 8), func(cell int) bool {
		asked = append(asked, cell)
		return true
	})
	for _, cell := range asked {
		if cell != 6 && cell != -2 {
			t.Errorf("asked for %v", asked)
		}
	}
	learns(t, frees(api.SiteOne, 1), free(2), but(-1), frees(api.SiteFew, 1, 2))
}

// R1: nobody says which cells are valid, or who says it panics: no cell is.
func TestLearnNobodySays(t *testing.T) {
	for _, valid := range []asks{nil, panics} {
		learns(t, api.Site{}, on(1, 0), valid, site(api.SiteOne, on(1, 0)))
		learns(t, site(api.SiteOne, on(1, 0)), free(2), valid, frees(api.SiteOne, 2))
		learns(t, site(api.SiteFew, on(1, 0), free(2), on(3, -2)), free(4), valid, frees(api.SiteFew, 2, 4))
	}
}

// R4, R5: two that are learnt by one site, whose row has room behind it, know nothing of each other; nor does a site of what is written into its next one.
func TestLearnTwice(t *testing.T) {
	s := caches.Learn(frees(api.SiteFew, 1, 2), free(3), yes)
	a, b := caches.Learn(s, free(4), yes), caches.Learn(s, free(5), yes)
	if !same(s, frees(api.SiteFew, 1, 2, 3)) || !same(a, frees(api.SiteFew, 1, 2, 3, 4)) || !same(b, frees(api.SiteFew, 1, 2, 3, 5)) {
		t.Errorf("%v, %v, %v", s, a, b)
	}
	scribble(a.Entries)
	if !same(s, frees(api.SiteFew, 1, 2, 3)) || !same(b, frees(api.SiteFew, 1, 2, 3, 5)) {
		t.Errorf("written into one, the others are %v, %v", s, b)
	}
	scribble(s.Entries)
	if !same(b, frees(api.SiteFew, 1, 2, 3, 5)) {
		t.Errorf("written into what was handed in, the answer is %v", b)
	}
}
