package caches_test

import (
	"math"
	"testing"

	"brazier/api"
	"brazier/caches"
	"brazier/cells"
)

// P15.4: a site's states go forward alone, whatever is learnt, and however many cells break on the way; behind SiteMany comes nothing.
func TestSitesGoForward(t *testing.T) {
	c := chance(151)
	met := [api.SiteMany + 1]int{}
	for range 400 {
		x := cells.New()
		shapes := 1 + c.below(8)
		s := api.Site{}
		for range 60 {
			if c.below(3) == 0 {
				x.Make(one(&c, -1, x.Count()-1))
			}
			if c.below(3) == 0 {
				x.Break(c.below(x.Count() + 1))
			}
			was := s
			e := on(c.below(shapes), c.below(x.Count()+2)-1)
			s = learns(t, was, e, x.Valid, wanted(was.State, append(left(was, e, x.Valid), e)))
			if s.State < was.State || s.State > api.SiteMany || s.State == api.SiteNew {
				t.Fatalf("of %v came %v", was, s)
			}
			if len(s.Entries) > api.Most || (s.State == api.SiteMany) != (len(s.Entries) == 0) {
				t.Fatalf("%v", s)
			}
			met[s.State]++
		}
	}
	if met[api.SiteOne] == 0 || met[api.SiteFew] == 0 || met[api.SiteMany] == 0 {
		t.Errorf("the states were met %v times", met)
	}
}

// left is a second reading: which of a site's entries a new one leaves there.
func left(s api.Site, e api.Entry, valid asks) []api.Entry {
	l := []api.Entry{}
	for i := range s.Entries {
		old := s.Entries[len(s.Entries)-1-i]
		if old.Shape == e.Shape {
			continue
		}
		if old.Cell == -1 || valid(old.Cell) {
			l = append([]api.Entry{old}, l...)
		}
	}
	return l
}

// P15.4: at most four shapes, whose cells stay valid, met in any order and learnt again or not: never SiteMany, and each is known from its first time on.
func TestFewShapesAreKnown(t *testing.T) {
	c := chance(152)
	for range 600 {
		x := cells.New()
		for range 5 {
			x.Make(-1)
		}
		shapes := []int{one(&c, 0, -1, math.MinInt), 1, 7, one(&c, 255, math.MaxInt)}[:1+c.below(4)]
		known := map[int]api.Entry{}
		s := api.Site{}
		for range 40 {
			shape := one(&c, shapes...)
			if e, met := known[shape]; met {
				finds(t, s, shape, x.Valid, e)
			} else {
				misses(t, s, shape, x.Valid)
			}
			if _, met := known[shape]; !met || c.below(3) == 0 {
				known[shape] = on(shape, c.below(6)-1)
				s = caches.Learn(s, known[shape], x.Valid)
			}
			if s.State != min(len(known), api.SiteFew) || len(s.Entries) != len(known) {
				t.Fatalf("of %v came %v", known, s)
			}
			for shape, e := range known {
				finds(t, s, shape, x.Valid, e)
			}
		}
	}
}

// P15.4: that goes for all orders of four shapes, each met twice; a fifth is one too many.
func TestFourShapesInAllOrders(t *testing.T) {
	for row := range 256 {
		s := api.Site{}
		met := map[int]int{}
		for _, shape := range []int{row % 4, row / 4 % 4, row / 16 % 4, row / 64, 0, 1, 2, 3} {
			met[shape]++
			s = caches.Learn(s, on(shape, shape), yes)
			if s.State == api.SiteMany || len(s.Entries) != len(met) {
				t.Fatalf("behind %v: %v", met, s)
			}
			for shape := range met {
				finds(t, s, shape, yes, on(shape, shape))
			}
		}
		learns(t, s, free(4), yes, site(api.SiteMany))
	}
}

// P15.4: entries that break make room: a site may meet any number of shapes, if at most four hold at once.
func TestBrokenMakesRoom(t *testing.T) {
	x := cells.New()
	s := api.Site{}
	for shape := range 50 {
		cell := x.Make(-1)
		if shape >= api.Most {
			x.Break(cell - api.Most)
		}
		s = caches.Learn(s, on(shape, cell), x.Valid)
		if s.State == api.SiteMany {
			t.Fatalf("at %d: %v", shape, s)
		}
		for old := range shape + 1 {
			if old > shape-api.Most {
				finds(t, s, old, x.Valid, on(old, old))
			} else {
				misses(t, s, old, x.Valid)
			}
		}
	}
}

// P15.4: states of arithmetic and of calls go forward alone; a call's target changes only with its state.
func TestStatesGoForward(t *testing.T) {
	c := chance(153)
	words := append(append(ints(), numbers()...), strangers()...)
	for range 300 {
		state, call, target := api.ArithNew, api.CallNew, api.Word(0)
		few := []api.Word{one(&c, words...), one(&c, words...), one(&c, words...)}[:1+c.below(3)]
		for range 30 {
			next := caches.Arith(state, one(&c, few...), one(&c, few...))
			if next < state || next < api.ArithInt || next > api.ArithAny {
				t.Fatalf("of %d came %d, of %x", state, next, few)
			}
			then, w := caches.Call(call, target, one(&c, few...))
			if then < call || then < api.CallOne || then > api.CallMany || then == call && w != target {
				t.Fatalf("of %d, %x came %d, %x, of %x", call, target, then, w, few)
			}
			state, call, target = next, then, w
		}
	}
}
