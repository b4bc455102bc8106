package quick_test

import (
	"slices"

	"brazier/api"
	"brazier/fuse"
	"brazier/heap"
	"brazier/machine"
	"brazier/props"
	"brazier/word"
)

// spot is a place of the code.
type spot struct{ fn, pc int }

// facts are what is to be known at a place.
type facts struct {
	site         api.Site
	arith, call  int
	target       api.Word
	looked       int
	turned       int
	shapes       map[int]bool // of the objects that were met
	odd          bool         // something was met that P18.9 says nothing of
	breaks       int          // how many cells were broken when the place was come by first
	brokenBefore bool         // one broke since
}

// scribe is a second reading of what is to be learnt: it looks in full at each instruction that a baseline machine does, and goes no other way.
type scribe struct {
	m     *machine.Machine
	h     *heap.Heap
	p     api.Program
	known map[spot]*facts
}

func newScribe(m *machine.Machine) *scribe {
	return &scribe{m: m, h: m.Heap(), p: m.Program(), known: map[spot]*facts{}}
}

func (s *scribe) flush() { s.known = map[spot]*facts{} }

// at is what is to be known at a place.
func (s *scribe) at(at spot) facts {
	if f := s.known[at]; f != nil {
		return *f
	}
	return facts{}
}

func (s *scribe) stands() spot { return spot{s.m.Func(), s.m.Pc()} }

// group does what a Step of so many at most does: how many instructions, and which.
func (s *scribe) group(groups [][]api.Group, most int) (int, []spot) {
	if s.m.End() != api.EndRunning || most < 1 {
		return 0, nil
	}
	at := s.stands()
	n, in, ok := fuse.Where(groups[at.fn], at.pc)
	if !ok {
		panic("no group")
	}
	var places []spot
	for k := in; k < groups[at.fn][n].Len && len(places) < most && s.stands() == at; k++ {
		places = append(places, at)
		s.step(at)
		at.pc++
	}
	return len(places), places
}

// step does an instruction.
func (s *scribe) step(at spot) {
	f := s.p.Funcs[at.fn]
	i := f.Code[at.pc]
	k := s.known[at]
	if k == nil {
		k = &facts{shapes: map[int]bool{}, breaks: s.h.Breaks()}
		s.known[at] = k
	}
	switch i.Op {
	case api.OpGetNamed:
		s.site(k, s.m.Reg(i.B), keyOf(f, i), true)
	case api.OpSetNamed:
		s.site(k, s.m.Reg(i.A), keyOf(f, i), false)
	case api.OpCall:
		s.call(k, s.m.Reg(i.B))
	case api.OpAdd, api.OpSub, api.OpMul, api.OpDiv, api.OpRem, api.OpShl, api.OpShr, api.OpUshr, api.OpAnd, api.OpOr, api.OpXor, api.OpLess, api.OpLessEq, api.OpGreater, api.OpGreaterEq:
		s.arith(k, s.m.Reg(i.B), s.m.Reg(i.C))
	}
	s.m.Step()
}

// arith is what arithmetic becomes by two words: one turn at most.
func (s *scribe) arith(k *facts, a, b api.Word) {
	state := max(k.arith, kindOf(a), kindOf(b))
	if state != k.arith {
		k.arith = state
		k.turned++
	}
}

func kindOf(w api.Word) int {
	if w>>48 == api.TagInt {
		return api.ArithInt
	}
	if _, ok := word.Bits(w); ok {
		return api.ArithNum
	}
	return api.ArithAny
}

func (s *scribe) call(k *facts, callee api.Word) {
	switch {
	case k.call == api.CallNew:
		k.call, k.target = api.CallOne, callee
		k.turned++
	case k.call == api.CallOne && k.target != callee:
		k.call = api.CallMany
		k.turned++
	}
}

func (s *scribe) holds(e api.Entry) bool { return e.Cell == -1 || s.h.Valid(e.Cell) }

func (s *scribe) site(k *facts, o api.Word, key string, reads bool) {
	shape, shaped := s.h.Shape(o)
	k.shapes[shape] = true
	k.brokenBefore = k.brokenBefore || s.h.Breaks() != k.breaks
	if shaped && slices.ContainsFunc(k.site.Entries, func(e api.Entry) bool { return e.Shape == shape && s.holds(e) }) {
		return
	}
	k.looked++
	e, ok := s.where(o, key, reads)
	if !ok {
		k.odd = true
		return
	}
	if k.site.State == api.SiteMany {
		return
	}
	if e.Holder != 0 {
		e.Cell = s.h.Guard(s.h.Proto(o))
	}
	s.learn(k, e)
}

func (s *scribe) learn(k *facts, e api.Entry) {
	k.turned++
	var l []api.Entry
	for _, old := range k.site.Entries {
		if old.Shape != e.Shape && s.holds(old) {
			l = append(l, old)
		}
	}
	l = append(l, e)
	switch {
	case len(l) > 4:
		k.site = api.Site{State: api.SiteMany}
	case len(l) > 1 || k.site.State == api.SiteFew:
		k.site = api.Site{State: api.SiteFew, Entries: l}
	default:
		k.site = api.Site{State: api.SiteOne, Entries: l}
	}
}

// where a property is, if that may be known: without its cell.
func (s *scribe) where(o api.Word, key string, reads bool) (api.Entry, bool) {
	of, d, ok := props.Lookup(s.h, o, key)
	if !ok || d.Flags&api.Accessor != 0 || !reads && (of != o || d.Flags&api.Writable == 0) {
		return api.Entry{}, false
	}
	for at := o; ; at = s.h.Proto(at) {
		if _, shaped := s.h.Shape(at); !shaped || s.elsewhere(at, key) {
			return api.Entry{}, false
		}
		if at == of {
			break
		}
	}
	shape, _ := s.h.Shape(o)
	e := api.Entry{Shape: shape, Slot: slices.Index(s.h.Keys(of), key), Cell: -1}
	if of != o {
		e.Holder = int(of&0xffffffff) + 1
	}
	return e, true
}

func (s *scribe) elsewhere(o api.Word, key string) bool {
	kind, _ := s.h.Kind(o)
	_, isIndex := props.Index(key)
	return kind == api.KindArray && (isIndex || key == "length")
}
