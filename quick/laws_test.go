package quick_test

import (
	"brazier/api"
	"brazier/heap"
	"brazier/props"
	"brazier/word"
)

// laws are what follows from all promises together, at a boundary: P18.7, P18.8, P18.9.
func (b *both) laws() {
	b.t.Helper()
	shapes := b.shapes()
	for at, k := range b.s.known {
		op := b.s.p.Funcs[at.fn].Code[at.pc].Op
		if op == api.OpGetNamed || op == api.OpSetNamed {
			b.truth(at, shapes)
		}
		if op == api.OpGetNamed && !k.odd && !k.brokenBefore && b.m.Heap().Breaks() == k.breaks && len(k.shapes) <= api.Most && b.q.Looked(at.fn, at.pc) > len(k.shapes) {
			b.fail("P18.9: at", at, "it was looked in full", b.q.Looked(at.fn, at.pc), "times, at", len(k.shapes), "shapes")
		}
		// What broke ahead of a Flush is counted, too: so this is no less than what the promise asks for.
		if s := b.q.Site(at.fn, at.pc); len(s.Entries) > api.Most || s.State == api.SiteMany && len(s.Entries) > 0 || b.q.Turned(at.fn, at.pc) > 6+4*b.m.Heap().Breaks() {
			b.fail("P18.8:", at, s, "has turned", b.q.Turned(at.fn, at.pc), "times,", b.m.Heap().Breaks(), "cells broke")
		}
	}
}

// shapes are all objects that have one, by their shapes.
func (b *both) shapes() map[int][]api.Word {
	h, l := b.m.Heap(), map[int][]api.Word{}
	for n := range h.Objects() {
		o := word.Object(uint32(n))
		if shape, ok := h.Shape(o); ok {
			l[shape] = append(l[shape], o)
		}
	}
	return l
}

// truth: P18.7, of a site.
func (b *both) truth(at spot, shapes map[int][]api.Word) {
	b.t.Helper()
	h := b.m.Heap()
	f := b.s.p.Funcs[at.fn]
	key := keyOf(f, f.Code[at.pc])
	for _, e := range b.q.Site(at.fn, at.pc).Entries {
		if e.Cell != -1 && !h.Valid(e.Cell) {
			continue
		}
		for _, o := range shapes[e.Shape] {
			if !tells(h, e, o, key) {
				b.fail("P18.7: at", at, e, "is not true of", o, key)
			}
			if _, d, _ := props.Lookup(h, o, key); f.Code[at.pc].Op == api.OpSetNamed && (e.Holder != 0 || d.Flags&api.Writable == 0) {
				b.fail("P18.7: at", at, e, "is written, which may not be", o, key)
			}
		}
	}
}

// tells: an entry says where an object's property is.
func tells(h *heap.Heap, e api.Entry, o api.Word, key string) bool {
	where := o
	if e.Holder != 0 {
		where = word.Object(uint32(e.Holder - 1))
	}
	of, d, ok := props.Lookup(h, o, key)
	there, has := h.Slot(where, e.Slot)
	keys := h.Keys(where)
	return ok && has && of == where && d == there && d.Flags&api.Accessor == 0 && keys[e.Slot] == key
}
