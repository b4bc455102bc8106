package caches_test

import (
	"math"
	"testing"

	"brazier/api"
	"brazier/caches"
	"brazier/cells"
)

// P15.1: each of a few entries by its shape, the whole of it; none of another shape.
func TestFind(t *testing.T) {
	l := []api.Entry{{Shape: 3, Holder: 0, Slot: 2, Cell: -1}, {Shape: 1, Holder: 9, Slot: 0, Cell: 4}, {Shape: 0, Holder: 0, Slot: 0, Cell: 0}, {Shape: 255, Holder: 65536, Slot: 15, Cell: 70000}}
	for n := range len(l) + 1 {
		s := site(min(n, api.SiteFew), l[:n]...)
		for i, e := range l {
			if i < n {
				finds(t, s, e.Shape, yes, e)
			} else {
				misses(t, s, e.Shape, yes)
			}
		}
		for _, shape := range []int{2, 4, 254, 256, -1} {
			misses(t, s, shape, yes)
		}
	}
}

// P15.1: a site of no entries, whatever its state.
func TestFindOfNothing(t *testing.T) {
	for state := api.SiteNew; state <= api.SiteMany; state++ {
		for _, shape := range []int{0, 1, -1, math.MinInt, math.MaxInt} {
			misses(t, site(state), shape, yes)
			misses(t, api.Site{State: state, Entries: []api.Entry{}}, shape, yes)
		}
	}
}

// P15.1: cells that break on the way: what hangs on them is found no more, all else is.
func TestFindBehindBreaks(t *testing.T) {
	c := cells.New()
	c.Make(-1)
	c.Make(0)
	c.Make(-1)
	s := site(api.SiteFew, on(1, 1), on(2, 2), free(3), on(4, 0))
	for _, shape := range []int{1, 2, 3, 4} {
		finds(t, s, shape, c.Valid, s.Entries[shape-1])
	}
	c.Break(1)
	misses(t, s, 1, c.Valid)
	finds(t, s, 4, c.Valid, s.Entries[3])
	c.Break(0)
	misses(t, s, 4, c.Valid)
	finds(t, s, 2, c.Valid, s.Entries[1])
	c.Break(2)
	misses(t, s, 2, c.Valid)
	finds(t, s, 3, c.Valid, s.Entries[2])
}

// P15.1: a cell that is not there yet is not valid; once it is made it is.
func TestFindOnLaterCell(t *testing.T) {
	c := cells.New()
	s := site(api.SiteOne, on(1, 0))
	misses(t, s, 1, c.Valid)
	c.Make(-1)
	finds(t, s, 1, c.Valid, s.Entries[0])
}

// P15.1: an entry without a cell holds, whatever is said of cells; nobody is asked.
func TestFindWithoutCell(t *testing.T) {
	s := site(api.SiteOne, free(1))
	for _, valid := range []asks{yes, no, but(-1), panics, nil} {
		finds(t, s, 1, valid, free(1))
		misses(t, s, 2, valid)
	}
	asked := 0
	caches.Find(s, 1, func(int) bool { asked++; return true })
	if asked != 0 {
		t.Errorf("asked for a cell that there is none of, %d times", asked)
	}
}

// P15.1: each other number is a cell's, those below 0 and 0 too: it is the one that is asked for.
func TestFindAsksForCell(t *testing.T) {
	for _, cell := range []int{math.MinInt, -1 << 32, -3, -2, 0, 1, 2, 1 << 32, math.MaxInt} {
		s := site(api.SiteOne, on(1, cell))
		finds(t, s, 1, yes, on(1, cell))
		finds(t, s, 1, func(c int) bool { return c == cell }, on(1, cell))
		misses(t, s, 1, but(cell))
		misses(t, s, 1, no)
		if cell < 0 {
			misses(t, s, 1, cells.New().Valid)
		}
	}
}

// P15.1: two entries of one shape: the first, if it holds; else the second, if that does.
func TestFindOfTwo(t *testing.T) {
	s := site(api.SiteFew, on(7, 1), on(8, 1), on(7, 2), on(7, 3))
	finds(t, s, 7, yes, on(7, 1))
	finds(t, s, 7, but(2), on(7, 1))
	finds(t, s, 7, but(1), on(7, 2))
	finds(t, s, 7, but(1, 2), on(7, 3))
	misses(t, s, 7, but(1, 2, 3))
	misses(t, s, 8, but(1))
	finds(t, site(api.SiteFew, free(7), on(7, 1)), 7, yes, free(7))
	finds(t, site(api.SiteFew, on(7, 1), free(7)), 7, yes, on(7, 1))
	finds(t, site(api.SiteFew, on(7, 1), free(7)), 7, no, free(7))
}

// P15.1: the entries are gone by, not the state: of a SiteMany, a SiteNew, and of states that there are not.
func TestFindWhateverState(t *testing.T) {
	for _, state := range append(wrongStates(), api.SiteNew, api.SiteOne, api.SiteFew, api.SiteMany) {
		s := site(state, on(1, 5), free(2))
		finds(t, s, 1, yes, on(1, 5))
		misses(t, s, 1, but(5))
		finds(t, s, 2, no, free(2))
		misses(t, s, 3, yes)
	}
}

// P15.1: wrong inputs: shapes below 0, and more entries than four.
func TestFindWrong(t *testing.T) {
	shapes := []int{math.MinInt, -2, -1, 0, 1, 2, 3, math.MaxInt}
	s := frees(api.SiteFew, shapes...)
	for _, shape := range shapes {
		finds(t, s, shape, no, free(shape))
	}
	misses(t, s, -3, yes)
	misses(t, s, 4, yes)
}

// R1: nobody says which cells are valid, or who says it panics: no cell is.
func TestFindNobodySays(t *testing.T) {
	s := site(api.SiteFew, on(1, 0), on(2, -2), on(3, 4), free(3))
	for _, valid := range []asks{nil, panics} {
		misses(t, s, 1, valid)
		misses(t, s, 2, valid)
		finds(t, s, 3, valid, free(3))
	}
}
