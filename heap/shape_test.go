package heap_test

import (
	"math"
	"slices"
	"testing"

	"brazier/api"
	"brazier/heap"
	"brazier/word"
)

// P13.6: the chapter's example.
func TestShapeExample(t *testing.T) {
	h := heap.New(9)
	o := object(t, h, word.Null)
	if o != word.Object(0) {
		t.Errorf("the first object is %x", o)
	}
	shaped(t, h, o, 0, 1)
	h.Put(o, "a", data(1, all))
	shaped(t, h, o, 1, 2)
	h.Drop(o, "a")
	shaped(t, h, o, none, 2)
}

// P13.6: each step by the shapes' own: the same ones come to one shape, others to others.
func TestShapeSteps(t *testing.T) {
	h := heap.New(99)
	o, p, q := object(t, h, word.Null), object(t, h, word.Null), object(t, h, word.Null)
	shaped(t, h, o, 0, 1)
	shaped(t, h, q, 0, 1)
	h.Put(o, "a", data(1, all))
	shaped(t, h, o, 1, 2)
	h.Put(p, "a", data(2, all))
	shaped(t, h, p, 1, 2)
	h.Put(q, "a", data(1, 3))
	shaped(t, h, q, 2, 3)
	// Other flags are another step than to lay the key with these.
	h.Put(p, "a", data(1, 3))
	shaped(t, h, p, 3, 4)
	// The same flags are no step.
	for range 2 {
		h.Put(p, "a", api.Desc{Value: o, Set: p, Flags: 3 | 16})
		shaped(t, h, p, 3, 4)
	}
	// Back again is a step, too.
	h.Put(p, "a", data(1, all))
	shaped(t, h, p, 4, 5)
	h.Put(o, "a", data(1, 3))
	shaped(t, h, o, 3, 5)
	h.Put(o, "a", api.Desc{Value: p, Flags: api.Accessor | 3})
	shaped(t, h, o, 5, 6)
	if slot, flags, ok := h.Find(5, "a"); slot != 0 || flags != api.Accessor|2 || !ok {
		t.Errorf("Find is %d, %d, %v", slot, flags, ok)
	}
}

// P13.6: SetProto goes by shapes.Move: its keys are laid anew, with the flags that they have.
func TestShapeMove(t *testing.T) {
	h := heap.New(99)
	p := object(t, h, word.Null)             // 0: shape 0
	o, x := object(t, h, p), object(t, h, p) // shape 1
	h.Put(o, "a", data(1, all))              // 2
	h.Put(o, "a", data(1, 3))                // 3, by a change
	shaped(t, h, o, 3, 4)
	h.SetProto(o, word.Null) // 0, and a: 4
	shaped(t, h, o, 4, 5)
	h.SetProto(o, p) // 1, and a: 5, by no change
	shaped(t, h, o, 5, 6)
	h.Put(x, "a", data(2, 3))
	shaped(t, h, x, 5, 6)
	h.SetProto(x, word.Null)
	shaped(t, h, x, 4, 6)
	y := object(t, h, x)
	shaped(t, h, y, 6, 7)
	h.SetProto(y, p)
	shaped(t, h, y, 1, 7)
}

// P13.6: to the prototype that there is: nothing is done, whatever steps led to the shape.
func TestSetProtoSame(t *testing.T) {
	for _, most := range []int{99, 4, 0} {
		h := heap.New(most)
		p := object(t, h, word.Null)
		o := object(t, h, p)
		h.Put(o, "a", data(1, all))
		h.Put(o, "a", data(1, 3))
		h.Guard(o)
		was := look(h, 2)
		for range 2 {
			h.SetProto(o, p)
			h.SetProto(p, word.Null)
		}
		if now := look(h, 2); now != was {
			t.Errorf("of\n%s\ncame\n%s", was, now)
		}
	}
}

// P13.6: a new object's shape hangs on its kind and its prototype, on both.
func TestRoots(t *testing.T) {
	h := heap.New(99)
	protos := []api.Word{word.Null}
	count := 0
	for n := range 8 {
		for kind := range 7 {
			for range 2 {
				o := of(t, h, kind, protos[n])
				shaped(t, h, o, n*7+kind, n*7+kind+1)
			}
			count++
		}
		protos = append(protos, word.Object(uint32(n)))
	}
	if h.Shapes() != count {
		t.Errorf("there are %d shapes, not %d", h.Shapes(), count)
	}
	// Moved objects keep their kind's shapes.
	o, p := of(t, h, api.KindArray, word.Null), of(t, h, api.KindError, word.Null)
	h.SetProto(o, word.Object(3))
	h.SetProto(p, word.Object(3))
	shaped(t, h, o, 4*7+api.KindArray, count)
	shaped(t, h, p, 4*7+api.KindError, count)
}

// P13.6: heaps of no shapes, and of fewer than none: all is as ever, but for shapes.
func TestNoShapes(t *testing.T) {
	for _, most := range []int{0, -1, -2, math.MinInt + 1, math.MinInt} {
		h := heap.New(most)
		p := object(t, h, word.Null)
		o := object(t, h, p)
		h.Put(o, "a", data(1, all))
		h.Put(o, "b", data(2, all))
		h.Put(o, "a", data(3, 3))
		h.SetProto(o, word.Null)
		shaped(t, h, o, none, 0)
		shaped(t, h, p, none, 0)
		keys(t, h, o, "a", "b")
		lies(t, h, o, "a", data(3, 3))
		h.Drop(o, "a")
		keys(t, h, o, "b")
		guard(t, h, o, 0, 0)
		if slot, flags, ok := h.Find(0, "a"); slot != 0 || flags != 0 || ok {
			t.Errorf("Find is %d, %d, %v", slot, flags, ok)
		}
	}
}

// P13.6: one shape: the first object's; others of the same beginning have it, too.
func TestOneShape(t *testing.T) {
	h := heap.New(1)
	o := of(t, h, api.KindArray, word.Null)
	shaped(t, h, o, 0, 1)
	shaped(t, h, object(t, h, word.Null), none, 1)
	shaped(t, h, of(t, h, api.KindArray, o), none, 1)
	p := of(t, h, api.KindArray, word.Null)
	shaped(t, h, p, 0, 1)
	h.Put(o, "a", data(1, all))
	shaped(t, h, o, none, 1)
	shaped(t, h, p, 0, 1)
}

// P13.6: at most MaxShapes, however many New is given.
func TestMostShapes(t *testing.T) {
	for _, most := range []int{api.MaxShapes - 1, api.MaxShapes, api.MaxShapes + 1, 1 << 20, math.MaxInt} {
		h := heap.New(most)
		for n := range api.MaxShapes + 20 {
			o := object(t, h, word.Null)
			h.Put(o, name(n), data(1, all))
			want, count := n+1, n+2
			if count > min(most, api.MaxShapes) {
				want, count = none, min(most, api.MaxShapes)
			}
			shaped(t, h, o, want, count)
		}
	}
}

// full is a heap of four shapes, all of them taken: object 0 has shape 0, objects 1 to 3 under it have shape 3 (a with other flags, by 1 and 2).
func full(t *testing.T, most int) *heap.Heap {
	t.Helper()
	h := heap.New(most)
	p := object(t, h, word.Null)
	for range 3 {
		o := object(t, h, p)
		h.Put(o, "a", data(1, all))
		h.Put(o, "a", data(1, 3))
		shaped(t, h, o, 3, h.Shapes())
	}
	if h.Shapes() != 4 {
		t.Fatal("there are", h.Shapes())
	}
	return h
}

// P13.6: the last shape that there is room for, and the one behind it, by each call: what is refused a shape is done all the same.
func TestLastShape(t *testing.T) {
	for _, k := range []struct {
		what string
		of   api.Word
		do   func(h *heap.Heap)
		done func(h *heap.Heap) bool
	}{
		{"Make", word.Object(4),
			func(h *heap.Heap) { h.Make(api.KindError, word.Null) },
			func(h *heap.Heap) bool { return h.Objects() == 5 }},
		{"a Put of a new key", word.Object(1),
			func(h *heap.Heap) { h.Put(word.Object(1), "b", data(2, all)) },
			func(h *heap.Heap) bool { _, ok := h.Get(word.Object(1), "b"); return ok }},
		{"a Put of other flags", word.Object(1),
			func(h *heap.Heap) { h.Put(word.Object(1), "a", data(2, 4)) },
			func(h *heap.Heap) bool { d, _ := h.Get(word.Object(1), "a"); return d == data(2, 4) }},
		{"SetProto", word.Object(0),
			func(h *heap.Heap) { h.SetProto(word.Object(0), object(t, h, word.Null)) },
			func(h *heap.Heap) bool { return h.Proto(word.Object(0)) == word.Object(4) }},
	} {
		t.Run(k.what, func(t *testing.T) {
			for _, most := range []int{5, 4} {
				h := full(t, most)
				k.do(h)
				want := 4
				if most == 4 {
					want = none
				}
				shaped(t, h, k.of, want, most)
				if !k.done(h) {
					t.Error("it is not done")
				}
				shaped(t, h, word.Object(3), 3, most)
			}
		})
	}
}

// P13.6: SetProto, and the room that Move needs: for the root, for a key; for nothing.
func TestLastShapeMove(t *testing.T) {
	h := full(t, 6)
	h.SetProto(word.Object(1), word.Object(2)) // its root, and a: 4, 5
	shaped(t, h, word.Object(1), 5, 6)
	h.SetProto(word.Object(3), word.Object(2)) // known
	shaped(t, h, word.Object(3), 5, 6)
	h.SetProto(word.Object(3), word.Object(0)) // a laid with these flags is not known under 0, and there is no room
	shaped(t, h, word.Object(3), none, 6)

	h = full(t, 5)
	h.SetProto(word.Object(1), word.Object(2))
	shaped(t, h, word.Object(1), none, 5) // the root has stayed
	shaped(t, h, object(t, h, word.Object(2)), 4, 5)
	shaped(t, h, word.Object(2), 3, 5)

	h = full(t, 4)
	h.SetProto(word.Object(1), word.Null)
	shaped(t, h, word.Object(1), none, 4)
	shaped(t, h, object(t, h, word.Null), 0, 4)
	shaped(t, h, object(t, h, word.Object(0)), 1, 4)
}

// P13.6: what is known is told without room.
func TestFullKnown(t *testing.T) {
	h := full(t, 4)
	o := object(t, h, word.Object(0))
	shaped(t, h, o, 1, 4)
	h.Put(o, "a", data(5, all))
	shaped(t, h, o, 2, 4)
	h.Put(o, "a", data(5, 3))
	shaped(t, h, o, 3, 4)
	x := object(t, h, word.Null)
	h.SetProto(x, word.Object(0))
	shaped(t, h, x, 1, 4)
	h.SetProto(x, word.Null)
	shaped(t, h, x, 0, 4)
}

// P13.6: an object that has lost its shape, in each way, has none for ever, whatever is done with it; and asks for no more shapes.
func TestLostForEver(t *testing.T) {
	for what, lose := range map[string]func(h *heap.Heap, o api.Word){
		"Drop":        func(h *heap.Heap, o api.Word) { h.Drop(o, "a") },
		"seventeenth": func(h *heap.Heap, o api.Word) { fill(h, o, 0, 16) },
		"refused": func(h *heap.Heap, o api.Word) {
			for n := 0; h.Shapes() < 40; n++ {
				x, _ := h.Make(api.KindBox, word.Null)
				h.Put(x, name(n), data(1, all))
			}
			h.Put(o, "new", data(1, all))
		},
	} {
		h := heap.New(40)
		p := object(t, h, word.Null)
		o := object(t, h, p)
		h.Put(o, "a", data(1, all))
		lose(h, o)
		count := h.Shapes()
		if shape(t, h, o) != none {
			t.Errorf("behind %s it has a shape", what)
		}
		h.Put(o, "more", data(1, all))
		shaped(t, h, o, none, count)
		h.Put(o, "more", data(1, 1))
		shaped(t, h, o, none, count)
		h.SetProto(o, word.Null)
		shaped(t, h, o, none, count)
		h.SetProto(o, p)
		shaped(t, h, o, none, count)
		for _, k := range h.Keys(o) {
			h.Drop(o, k)
		}
		h.Put(o, "a", data(1, all))
		h.SetLen(o, 3)
		h.Write(o, 0, word.True)
		h.SetInner(o, []api.Word{1})
		shaped(t, h, o, none, count)
		keys(t, h, o, "a")
		under(t, h, o, p)
	}
}

// P13.6: the sixteenth property and the seventeenth: for that one no shape is asked.
func TestMaxFast(t *testing.T) {
	h := heap.New(99)
	o, x := object(t, h, word.Null), object(t, h, word.Null)
	fill(h, o, 0, 15)
	shaped(t, h, o, 15, 16)
	fill(h, o, 15, 16)
	shaped(t, h, o, 16, 17)
	// In place there may be as many.
	h.Put(o, name(15), data(7, 3))
	shaped(t, h, o, 17, 18)
	h.Put(o, name(0), data(7, all))
	shaped(t, h, o, 17, 18)
	h.Put(o, "one more", data(7, 3))
	shaped(t, h, o, none, 18)
	if got := h.Keys(o); len(got) != 17 || got[16] != "one more" {
		t.Errorf("keys are %q", got)
	}
	fill(h, x, 0, 16)
	shaped(t, h, x, 16, 18)
	h.SetProto(x, o) // a root, and sixteen
	shaped(t, h, x, 34, 35)
	fill(h, x, 16, 17)
	shaped(t, h, x, none, 35)
}

// P13.6: a Drop that is not done, what is laid in elements, a Write, a Close: the shape stays.
func TestShapeStays(t *testing.T) {
	h := heap.New(99)
	o := object(t, h, word.Null)
	fill(h, o, 0, 3)
	shaped(t, h, o, 3, 4)
	h.Drop(o, "other")
	h.SetElem(o, 9, word.True)
	h.SetLen(o, 2)
	h.Write(o, 1, word.True)
	h.Write(o, 3, word.True)
	h.Close(o)
	h.SetInner(o, []api.Word{1, 2})
	h.SetProto(o, o)
	h.SetProto(o, word.Undefined)
	h.Guard(o)
	h.Put(o, name(2), api.Desc{Value: word.Null, Flags: all | 32})
	shaped(t, h, o, 3, 4)
}

// P13.6: Find of keys and shapes, also of such as there are not.
func TestFind(t *testing.T) {
	h := heap.New(99)
	o := object(t, h, word.Null)
	h.Put(o, "", data(1, 3))
	h.Put(o, "b", data(1, 12))
	for _, k := range []struct {
		shape       int
		key         string
		slot, flags int
		ok          bool
	}{
		{0, "", 0, 0, false}, {1, "", 0, 3, true}, {2, "", 0, 3, true},
		{1, "b", 0, 0, false}, {2, "b", 1, 12, true}, {2, "c", 0, 0, false}, {2, "\x00", 0, 0, false},
	} {
		if slot, flags, ok := h.Find(k.shape, k.key); slot != k.slot || flags != k.flags || ok != k.ok {
			t.Errorf("Find(%d, %q) is %d, %d, %v", k.shape, k.key, slot, flags, ok)
		}
	}
	for _, n := range numbers(3) {
		if slot, flags, ok := h.Find(n, ""); slot != 0 || flags != 0 || ok {
			t.Errorf("Find of shape %d is %d, %d, %v", n, slot, flags, ok)
		}
	}
	// A shape stays known when no object has it any more.
	h.Drop(o, "")
	if slot, flags, ok := h.Find(2, "b"); slot != 1 || flags != 12 || !ok {
		t.Errorf("Find behind a Drop is %d, %d, %v", slot, flags, ok)
	}
}

// alike tells that objects of one shape are alike, and that Find tells where their properties lie (P13.7).
func alike(t *testing.T, h *heap.Heap) {
	t.Helper()
	first := map[int]api.Word{}
	for n := range h.Objects() {
		o := word.Object(uint32(n))
		s, ok := h.Shape(o)
		if !ok {
			continue
		}
		for at, k := range h.Keys(o) {
			d, _ := h.Slot(o, at)
			if slot, flags, is := h.Find(s, k); slot != at || flags != d.Flags || !is {
				t.Fatalf("Find(%d, %q) is %d, %d, %v; object %d has it at %d, with %d", s, k, slot, flags, is, n, at, d.Flags)
			}
		}
		p, met := first[s]
		if !met {
			first[s] = o
			continue
		}
		kind, _ := h.Kind(o)
		other, _ := h.Kind(p)
		if kind != other || h.Proto(o) != h.Proto(p) || !slices.Equal(h.Keys(o), h.Keys(p)) {
			t.Fatalf("objects %x and %x of shape %d: kinds %d, %d, prototypes %x, %x, keys %q, %q", o, p, s, kind, other, h.Proto(o), h.Proto(p), h.Keys(o), h.Keys(p))
		}
	}
}

// P13.7: objects that come to the same properties by the same steps have one shape; by others not always, but are alike where they have.
func TestAlike(t *testing.T) {
	h := heap.New(250)
	p := object(t, h, word.Null)
	for kind := range 7 {
		for way := range 8 {
			o := of(t, h, kind, one(new(chance(way)), p, word.Null))
			order := []string{"a", "b", "c"}
			if way%2 == 1 {
				slices.Reverse(order)
			}
			for _, k := range order {
				h.Put(o, k, data(int32(way), all-way/4*2))
			}
			h.Put(o, "b", data(1, 5))
			if way >= 6 {
				h.SetProto(o, p)
			}
			alike(t, h)
		}
	}
	a, b := of(t, h, 2, p), of(t, h, 2, p)
	for _, o := range []api.Word{a, b} {
		fill(h, o, 0, 5)
		h.Put(o, name(2), data(0, 2))
	}
	if s := shape(t, h, a); s == none || s != shape(t, h, b) {
		t.Errorf("the same steps came to %d and %d", s, shape(t, h, b))
	}
	// Others, that came to the same properties: another shape.
	c := of(t, h, 2, p)
	for n := range 5 {
		h.Put(c, name(n), data(int32(n), []int{all, all, 2, all, all}[n]))
	}
	if shape(t, h, c) == shape(t, h, a) {
		t.Error("a change is no other step")
	}
	alike(t, h)
}
