package heap_test

import (
	"testing"

	"brazier/api"
	"brazier/heap"
	"brazier/word"
)

// refusesMake tells that there is no such object, and that nothing came of it.
func refusesMake(t *testing.T, h *heap.Heap, kind int, proto api.Word) {
	t.Helper()
	n, s := h.Objects(), h.Shapes()
	if o, ok := h.Make(kind, proto); o != word.Undefined || ok {
		t.Errorf("Make(%d, %x) is %x, %v", kind, proto, o, ok)
	}
	if h.Objects() != n || h.Shapes() != s {
		t.Errorf("Make(%d, %x): there are %d objects, %d shapes", kind, proto, h.Objects(), h.Shapes())
	}
}

// P13.2: a new object: the next number, no properties, elements, inner words; open.
func TestMake(t *testing.T) {
	h := heap.New(99)
	protos := []api.Word{word.Null}
	for n := range 40 {
		kind, proto := n%7, protos[n*n%len(protos)]
		o := of(t, h, kind, proto)
		if got, ok := h.Kind(o); got != kind || !ok || !h.Open(o) || o != word.Object(uint32(n)) {
			t.Errorf("object %x of kind %d is of %d, %v, open %v", o, kind, got, ok, h.Open(o))
		}
		under(t, h, o, proto)
		keys(t, h, o)
		holds(t, h, o)
		if len(h.Inner(o)) != 0 {
			t.Errorf("object %x has inner words %x", o, h.Inner(o))
		}
		protos = append(protos, o)
	}
}

// P13.2: the seven kinds, and the numbers on both sides of them.
func TestKinds(t *testing.T) {
	h := heap.New(9)
	for n, kind := range []int{api.KindPlain, api.KindArray, api.KindFunction, api.KindNative, api.KindBox, api.KindGenerator, api.KindError} {
		if got, ok := h.Kind(of(t, h, kind, word.Null)); got != n || !ok {
			t.Errorf("kind %d is %d, %v", n, got, ok)
		}
	}
	for _, kind := range numbers(7) {
		refusesMake(t, h, kind, word.Null)
		refusesMake(t, h, kind, word.Object(0))
		refusesMake(t, h, kind, word.Undefined)
	}
	of(t, h, api.KindError, word.Object(6))
}

// P13.2: a prototype that is none: also the object that would be made.
func TestMakeUnderNothing(t *testing.T) {
	h := heap.New(9)
	for range 3 {
		for _, w := range strangers(h) {
			if w != word.Null {
				refusesMake(t, h, api.KindPlain, w)
			}
		}
		object(t, h, word.Null)
	}
}

// P13.2: MaxObjects, and one more; those that there are can still be changed.
func TestManyObjects(t *testing.T) {
	h := heap.New(2)
	for range api.MaxObjects {
		object(t, h, word.Null)
	}
	for kind := range 8 {
		refusesMake(t, h, kind, word.Null)
		refusesMake(t, h, kind, word.Object(0))
	}
	last := word.Object(api.MaxObjects - 1)
	h.Put(last, "a", data(1, all))
	keys(t, h, last, "a")
	h.SetProto(last, word.Object(0))
	under(t, h, last, word.Object(0))
	if _, ok := h.Kind(word.Object(api.MaxObjects)); ok {
		t.Error("there is an object behind the last")
	}
}

// P13.2: Close: it is not Open any more, and that is all: it is for others to heed that.
func TestClose(t *testing.T) {
	h := heap.New(99)
	p, o := object(t, h, word.Null), object(t, h, word.Null)
	h.Put(o, "a", data(1, all))
	was := shape(t, h, o)
	guard(t, h, o, 0, 0)
	for range 2 {
		h.Close(o)
		if h.Open(o) || !h.Open(p) {
			t.Fatal("open:", h.Open(o), h.Open(p))
		}
	}
	guard(t, h, o, 0, 0)
	if shape(t, h, o) != was {
		t.Error("its shape is another one")
	}
	h.Put(o, "b", data(2, all))
	keys(t, h, o, "a", "b")
	if !h.SetElem(o, 1, word.True) || !h.Write(o, 0, word.Int(3)) || !h.SetLen(o, 1) {
		t.Error("what is closed is not changed")
	}
	h.SetInner(o, []api.Word{word.Int(7)})
	h.SetProto(o, p)
	under(t, h, o, p)
	if !h.Drop(o, "a") || h.Open(o) || h.Inner(o)[0] != word.Int(7) {
		t.Error("behind a Drop:", h.Open(o), h.Inner(o))
	}
	h.SetProto(p, word.Null)
	object(t, h, o)
	if h.Open(o) || !h.Open(word.Object(2)) {
		t.Error("open, in the end:", h.Open(o), h.Open(word.Object(2)))
	}
}

// P13.2: SetProto to Null, to an object, to and fro.
func TestSetProto(t *testing.T) {
	h := heap.New(99)
	a, b, c := object(t, h, word.Null), object(t, h, word.Null), object(t, h, word.Null)
	for _, p := range []api.Word{a, b, word.Null, word.Null, b, b, a, word.Null} {
		h.SetProto(c, p)
		under(t, h, c, p)
	}
	under(t, h, a, word.Null)
	under(t, h, b, word.Null)
	// One that came later may stand above, too.
	h.SetProto(a, c)
	h.SetProto(b, c)
	under(t, h, a, c)
	under(t, h, b, c)
}

// P13.2: SetProto to the object itself, to each one that has it above, to what is no object: nothing is done.
func TestSetProtoRefused(t *testing.T) {
	h := heap.New(99)
	var row []api.Word
	p := word.Null
	for range 6 {
		p = object(t, h, p)
		h.Put(p, "a", data(1, all))
		row = append(row, p)
	}
	h.Guard(p)
	was := look(h, 6)
	for n, o := range row {
		for _, p := range row[n:] {
			h.SetProto(o, p)
		}
		for _, p := range strangers(h) {
			if p != word.Null {
				h.SetProto(o, p)
			}
		}
	}
	if now := look(h, 6); now != was {
		t.Errorf("of\n%s\ncame\n%s", was, now)
	}
	for n, o := range row {
		want := word.Null
		if n > 0 {
			want = row[n-1]
		}
		under(t, h, o, want)
	}
	// Each one above may take the place of the next.
	for n := 5; n > 0; n-- {
		for _, p := range row[:n] {
			h.SetProto(row[n], p)
			under(t, h, row[n], p)
		}
	}
}

// P13.2: what stood above once and does so no more may come below; then it is the other way round.
func TestSetProtoTurned(t *testing.T) {
	h := heap.New(99)
	a, b := object(t, h, word.Null), object(t, h, word.Null)
	for range 3 {
		h.SetProto(b, a)
		h.SetProto(a, b)
		under(t, h, a, word.Null)
		under(t, h, b, a)
		h.SetProto(b, word.Null)
		h.SetProto(a, b)
		h.SetProto(b, a)
		under(t, h, a, b)
		under(t, h, b, word.Null)
		h.SetProto(a, word.Null)
	}
	c := object(t, h, a)
	h.SetProto(a, b)
	h.SetProto(b, c)
	under(t, h, b, word.Null)
	h.SetProto(c, word.Null)
	h.SetProto(b, c)
	under(t, h, b, c)
	h.SetProto(c, a)
	under(t, h, c, word.Null)
}

// P13.2: rows of as many prototypes as there are objects, by Make and by SetProto from either end.
func TestLongRows(t *testing.T) {
	const n = api.MaxObjects
	made, down, up := heap.New(9), heap.New(9), heap.New(9)
	p := word.Null
	for range n {
		p = object(t, made, p)
		object(t, down, word.Null)
		object(t, up, word.Null)
	}
	for i := range uint32(n - 1) {
		down.SetProto(word.Object(i+1), word.Object(i))
		up.SetProto(word.Object(n-1-i), word.Object(n-2-i))
	}
	for i, h := range []*heap.Heap{made, down, up} {
		first, last := word.Object(0), word.Object(n-1)
		h.SetProto(first, last)
		under(t, h, first, word.Null)
		guard(t, h, last, n-1, 0)
		for o := uint32(1); o < n; o++ {
			if h.Proto(word.Object(o)) != word.Object(o-1) {
				t.Fatal("row", i, "object", o, "is under", h.Proto(word.Object(o)))
			}
		}
		h.Put(first, "a", data(1, all))
		if h.Breaks() != n || h.Valid(0) || h.Valid(n-1) {
			t.Error("row", i, "broke", h.Breaks())
		}
	}
}
