package heap_test

import (
	"testing"

	"brazier/api"
	"brazier/heap"
	"brazier/word"
)

// tellsNothing asks all of a word that is no object, and does all with it.
func tellsNothing(t *testing.T, h *heap.Heap, o, there api.Word) {
	t.Helper()
	kind, is := h.Kind(o)
	if kind != 0 || is || h.Proto(o) != word.Null || h.Open(o) {
		t.Errorf("%x: kind %d, %v, under %x, open %v", o, kind, is, h.Proto(o), h.Open(o))
	}
	for _, key := range []string{"", "a", "length"} {
		d, ok := h.Get(o, key)
		if d != (api.Desc{}) || ok || h.Drop(o, key) {
			t.Errorf("%x: %q is %v, %v", o, key, d, ok)
		}
		h.Put(o, key, data(1, all))
	}
	for _, n := range append(numbers(3), 0, 1, 2) {
		w, ok := h.Elem(o, n)
		d, is := h.Slot(o, n)
		if w != word.Undefined || ok || d != (api.Desc{}) || is {
			t.Errorf("%x: element %d is %x, %v, place %v, %v", o, n, w, ok, d, is)
		}
		if h.SetElem(o, n, there) || h.SetLen(o, n) || h.Write(o, n, there) {
			t.Errorf("%x: something is done at %d", o, n)
		}
	}
	h.Close(o)
	h.SetProto(o, there)
	h.SetProto(o, word.Null)
	h.SetProto(o, o)
	h.SetInner(o, []api.Word{there})
	s, ok := h.Shape(o)
	if s != 0 || ok || h.Guard(o) != -1 || len(h.Keys(o)) != 0 || h.Len(o) != 0 || len(h.Inner(o)) != 0 {
		t.Errorf("%x: shape %d, %v, guard %d, keys %q, length %d, inner %x", o, s, ok, h.Guard(o), h.Keys(o), h.Len(o), h.Inner(o))
	}
}

// P13.2 to P13.6: words that are no objects, or none of the heap's, for every call: the zero answers, and nothing changes.
func TestStrangers(t *testing.T) {
	for _, n := range []int{0, 1, 3} {
		h := row(t, n)
		h.Text("a")
		h.Text("b")
		there := word.Null
		if n > 0 {
			there = word.Object(uint32(n - 1))
			h.SetInner(there, []api.Word{1, 2})
			h.Guard(there)
		}
		was := look(h, n+3)
		for _, w := range strangers(h) {
			tellsNothing(t, h, w, there)
			if now := look(h, n+3); now != was {
				t.Fatalf("%x: of\n%s\ncame\n%s", w, was, now)
			}
		}
		says(t, h, "c", 2)
	}
}

// P13.2: an object that comes later knows nothing of what was done at its number.
func TestObjectAhead(t *testing.T) {
	h := heap.New(9)
	o := word.Object(0)
	tellsNothing(t, h, o, word.Null)
	object(t, h, word.Null)
	keys(t, h, o)
	holds(t, h, o)
	shaped(t, h, o, 0, 1)
	guard(t, h, o, 0, 0)
	if !h.Open(o) || len(h.Inner(o)) != 0 {
		t.Error("it is not new")
	}
}

// P13.2: objects of another heap are known by their numbers alone.
func TestTwoHeaps(t *testing.T) {
	g, h := row(t, 3), row(t, 1)
	g.Guard(word.Object(2))
	h.Put(word.Object(0), "b", data(1, all))
	valid(t, g, 3, 0, 1, 2)
	keys(t, g, word.Object(0), "a")
	tellsNothing(t, h, word.Object(2), word.Object(0))
	if h.Breaks() != 0 || g.Breaks() != 0 || h.Objects() != 1 || g.Objects() != 3 {
		t.Error("heaps share something")
	}
}

// R1: without a heap: the zero answers.
func TestWithoutHeap(t *testing.T) {
	var h *heap.Heap
	for _, w := range append(strangers(h), word.Object(0)) {
		tellsNothing(t, h, w, word.Object(0))
		if s, ok := h.TextOf(w); s != "" || ok {
			t.Errorf("TextOf(%x) is %q, %v", w, s, ok)
		}
	}
	refuses(t, h, "")
	refuses(t, h, "a")
	refusesMake(t, h, api.KindPlain, word.Null)
	for _, n := range append(numbers(1), 0) {
		if slot, flags, ok := h.Find(n, "a"); slot != 0 || flags != 0 || ok || h.Valid(n) {
			t.Errorf("shape or cell %d: %d, %d, %v", n, slot, flags, ok)
		}
	}
	if h.Objects() != 0 || h.Shapes() != 0 || h.Breaks() != 0 {
		t.Error("there is something")
	}
}

// R1: a heap that New did not make is as good as one of no shapes, whichever call comes first.
func TestWithoutNew(t *testing.T) {
	for n, first := range []func(h *heap.Heap){
		func(h *heap.Heap) {},
		func(h *heap.Heap) { tellsNothing(t, h, word.Object(0), word.Null) },
		func(h *heap.Heap) { h.Find(0, "a") },
		func(h *heap.Heap) { h.Valid(0) },
		func(h *heap.Heap) { h.Shapes() },
		func(h *heap.Heap) { h.TextOf(word.Text(0)) },
		func(h *heap.Heap) { h.Make(9, word.Null) },
	} {
		h := &heap.Heap{}
		first(h)
		if n%2 == 0 {
			says(t, h, "a", 0)
		}
		o := object(t, h, word.Null)
		says(t, h, "a", 0)
		h.Put(o, "a", data(1, all))
		keys(t, h, o, "a")
		shaped(t, h, o, none, 0)
		guard(t, h, o, 0, 0)
		h.Put(o, "a", data(1, all))
		guard(t, h, o, 1, 1)
	}
}
