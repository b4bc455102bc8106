package heap_test

import (
	"testing"

	"brazier/api"
	"brazier/heap"
	"brazier/word"
)

// row is a heap of so many objects, each under the one ahead of it, with a property and an element.
func row(t *testing.T, n int) *heap.Heap {
	t.Helper()
	h := heap.New(99)
	p := word.Null
	for range n {
		p = object(t, h, p)
		h.Put(p, "a", data(1, all))
		h.SetElem(p, 0, word.True)
	}
	return h
}

// P13.6: the chapter's example.
func TestGuardExample(t *testing.T) {
	h := heap.New(9)
	p := object(t, h, word.Null)
	o := object(t, h, p)
	guard(t, h, o, 1, 0)
	guard(t, h, p, 0, 0)
	h.Put(p, "a", data(1, all))
	valid(t, h, 2)
	if h.Breaks() != 2 {
		t.Errorf("%d broke", h.Breaks())
	}
}

// P13.6: of what is no object: -1, and no cell is made.
func TestGuardNothing(t *testing.T) {
	h := row(t, 2)
	for _, w := range strangers(h) {
		if got := h.Guard(w); got != -1 {
			t.Errorf("Guard(%x) is %d", w, got)
		}
	}
	valid(t, h, 0)
	guard(t, h, word.Object(0), 0, 0)
	for _, w := range strangers(h) {
		if got := h.Guard(w); got != -1 {
			t.Errorf("Guard(%x) is %d", w, got)
		}
	}
	guard(t, h, word.Object(1), 1, 0)
}

// P13.6: a Guard that is told again is the same cell; one is made for each object above that has none, the highest first.
func TestGuardTwice(t *testing.T) {
	h := row(t, 6)
	for range 3 {
		guard(t, h, word.Object(2), 2, 0)
		guard(t, h, word.Object(0), 0, 0)
		guard(t, h, word.Object(1), 1, 0)
	}
	valid(t, h, 3, 0, 1, 2)
	for range 2 {
		guard(t, h, word.Object(5), 5, 0)
		guard(t, h, word.Object(4), 4, 0)
		guard(t, h, word.Object(3), 3, 0)
	}
	valid(t, h, 6, 0, 1, 2, 3, 4, 5)
	// Another one below the same is a cell of its own.
	guard(t, h, object(t, h, word.Object(5)), 6, 0)
	guard(t, h, object(t, h, word.Object(5)), 7, 0)
	valid(t, h, 8, 0, 1, 2, 3, 4, 5, 6, 7)
	if h.Valid(-1) {
		t.Error("-1 is valid")
	}
}

// changes are the calls that break an object's cell.
func changes() map[string]func(h *heap.Heap, o api.Word) {
	return map[string]func(h *heap.Heap, o api.Word){
		"Put of a new key":         func(h *heap.Heap, o api.Word) { h.Put(o, "new", data(1, all)) },
		"Put of other flags":       func(h *heap.Heap, o api.Word) { h.Put(o, "a", data(1, 3)) },
		"Put of another value":     func(h *heap.Heap, o api.Word) { h.Put(o, "a", data(2, all)) },
		"Put of the same property": func(h *heap.Heap, o api.Word) { h.Put(o, "a", data(1, all)) },
		"Put of a getter":          func(h *heap.Heap, o api.Word) { h.Put(o, "a", api.Desc{Value: o, Flags: api.Accessor}) },
		"Drop":                     func(h *heap.Heap, o api.Word) { h.Drop(o, "a") },
		"SetProto to another one": func(h *heap.Heap, o api.Word) {
			p, _ := h.Make(api.KindPlain, word.Null)
			h.SetProto(o, p)
		},
		"SetProto to another one and back": func(h *heap.Heap, o api.Word) {
			was := h.Proto(o)
			p, _ := h.Make(api.KindPlain, word.Null)
			h.SetProto(o, p)
			h.SetProto(o, was)
		},
		"SetElem behind the last":     func(h *heap.Heap, o api.Word) { h.SetElem(o, 4, word.True) },
		"SetElem in place":            func(h *heap.Heap, o api.Word) { h.SetElem(o, 0, word.False) },
		"SetElem of the same element": func(h *heap.Heap, o api.Word) { h.SetElem(o, 0, word.True) },
		"SetElem of a hole":           func(h *heap.Heap, o api.Word) { h.SetElem(o, 0, word.Hole) },
		"SetLen, longer":              func(h *heap.Heap, o api.Word) { h.SetLen(o, 5) },
		"SetLen, shorter":             func(h *heap.Heap, o api.Word) { h.SetLen(o, 0) },
		"SetLen, as long":             func(h *heap.Heap, o api.Word) { h.SetLen(o, 1) },
		"Write":                       func(h *heap.Heap, o api.Word) { h.Write(o, 0, word.Int(2)) },
		"Write of the same value":     func(h *heap.Heap, o api.Word) { h.Write(o, 0, word.Int(1)) },
		"Put behind a lost shape": func(h *heap.Heap, o api.Word) {
			fill(h, o, 0, 20)
			h.Drop(o, "a")
			h.Put(o, "z", data(1, all))
		},
	}
}

// P13.6, P13.8: each call that breaks a cell, at each height: its own, and all below it, and no other one.
func TestGuardBreaks(t *testing.T) {
	const high = 5
	for what, change := range changes() {
		for at := range high {
			h := row(t, high)
			// Objects 5 to 9: one beside each of the row, under its prototype.
			for n := range high {
				x := object(t, h, h.Proto(word.Object(uint32(n))))
				h.Put(x, "a", data(1, all))
			}
			guard(t, h, word.Object(high-1), high-1, 0)
			for n := range uint32(high) {
				guard(t, h, word.Object(high+n), high+int(n), 0)
			}
			change(h, word.Object(uint32(at)))
			var want []int
			for n := range high {
				if n < at {
					want = append(want, n)
				}
			}
			for n := range high {
				// One beside stands under what is above it: it breaks where that does.
				if n <= at {
					want = append(want, high+n)
				}
			}
			valid(t, h, 2*high, want...)
			if h.Breaks() != 2*high-len(want) {
				t.Errorf("%s at %d: %d broke, not %d", what, at, h.Breaks(), 2*high-len(want))
			}
		}
	}
}

// P13.6, P13.8: what is refused, and what changes nothing that is seen from below, breaks nothing.
func TestGuardStays(t *testing.T) {
	h := row(t, 4)
	for n := range uint32(4) {
		h.SetInner(word.Object(n), []api.Word{1})
	}
	guard(t, h, word.Object(3), 3, 0)
	for n := range uint32(4) {
		o := word.Object(n)
		h.SetProto(o, h.Proto(o))
		h.SetProto(o, o)
		h.SetProto(o, word.Undefined)
		h.SetProto(o, word.Object(3))
		h.SetProto(o, word.Object(4))
		h.Drop(o, "b")
		h.SetElem(o, -1, word.True)
		h.SetElem(o, api.MaxElems, word.True)
		h.SetLen(o, -1)
		h.SetLen(o, api.MaxElems+1)
		h.Write(o, -1, word.True)
		h.Write(o, 1, word.True)
		h.Make(9, o)
		h.Close(o)
		h.SetInner(o, []api.Word{2})
		h.Text("a")
		for _, w := range strangers(h) {
			h.Put(w, "a", data(1, all))
			h.Write(w, 0, word.True)
		}
		guard(t, h, o, int(n), 0)
	}
	// A new object below, and what is done with it.
	x := object(t, h, word.Object(3))
	h.Put(x, "a", data(1, all))
	h.SetElem(x, 3, word.True)
	h.SetProto(x, word.Object(1))
	h.Drop(x, "a")
	valid(t, h, 4, 0, 1, 2, 3)
	guard(t, h, x, 4, 0)
}

// P13.6: behind a break: a new cell, on top of those above that still are; broken ones are never valid again.
func TestGuardAnew(t *testing.T) {
	h := row(t, 4)
	guard(t, h, word.Object(3), 3, 0)
	h.Put(word.Object(2), "b", data(1, all)) // 2, 3
	valid(t, h, 4, 0, 1)
	guard(t, h, word.Object(3), 5, 2) // on 4, for object 2
	guard(t, h, word.Object(2), 4, 2)
	guard(t, h, word.Object(1), 1, 2)
	h.Put(word.Object(3), "b", data(1, all)) // 5
	valid(t, h, 6, 0, 1, 4)
	h.Put(word.Object(3), "b", data(1, all)) // it has none
	if h.Breaks() != 3 {
		t.Errorf("%d broke", h.Breaks())
	}
	h.Put(word.Object(0), "b", data(1, all)) // 0, 1, 4
	valid(t, h, 6)
	guard(t, h, word.Object(1), 7, 6) // on 6
	guard(t, h, word.Object(3), 9, 6)
	valid(t, h, 10, 6, 7, 8, 9)
	// All of the old ones: each breaks but once.
	for n := range uint32(4) {
		h.Put(word.Object(3-n), "c", data(1, all))
	}
	if h.Breaks() != 10 {
		t.Errorf("%d broke", h.Breaks())
	}
	valid(t, h, 10)
}

// P13.6: how many break at once: all below one, over however many, beside each other and one below the other.
func TestBreaksAtOnce(t *testing.T) {
	h := heap.New(9)
	top := object(t, h, word.Null)
	for range 3000 {
		o := object(t, h, top)
		for range 3 {
			o = object(t, h, o)
		}
		h.Guard(o)
	}
	guard(t, h, top, 0, 0)
	h.Write(top, 0, word.True)
	if h.Breaks() != 0 {
		t.Error("a write that is not done breaks", h.Breaks())
	}
	h.SetLen(top, 1)
	if h.Breaks() != 1+3000*4 {
		t.Errorf("%d broke", h.Breaks())
	}
	h.SetLen(top, 2)
	if h.Breaks() != 1+3000*4 {
		t.Errorf("%d broke, then", h.Breaks())
	}
}

// P13.8: an object that was moved stands on what is above it now, no more on what was.
func TestGuardMoved(t *testing.T) {
	h := heap.New(99)
	a, b := object(t, h, word.Null), object(t, h, word.Null)
	o := object(t, h, a)
	x := object(t, h, o)
	guard(t, h, x, 2, 0)
	h.SetProto(o, b)
	valid(t, h, 3, 0)
	guard(t, h, x, 5, 2) // b 3, o 4
	h.Put(a, "a", data(1, all))
	valid(t, h, 6, 3, 4, 5)
	h.Put(b, "a", data(1, all))
	valid(t, h, 6)
	h.SetProto(o, word.Null)
	guard(t, h, x, 7, 6)
	h.Put(b, "b", data(1, all))
	h.Put(a, "b", data(1, all))
	valid(t, h, 8, 6, 7)
	h.SetProto(o, a)
	valid(t, h, 8)
	if h.Breaks() != 8 {
		t.Errorf("%d broke", h.Breaks())
	}
}

// P13.6: Valid of cells that there are not.
func TestValidOfNone(t *testing.T) {
	h := row(t, 3)
	for _, n := range append(numbers(0), 0, 1, 2) {
		if h.Valid(n) {
			t.Errorf("cell %d is valid ahead of each Guard", n)
		}
	}
	h.Guard(word.Object(2))
	for _, n := range numbers(3) {
		if h.Valid(n) {
			t.Errorf("cell %d is valid", n)
		}
	}
}

// P13.8: the same by chance: a guard is valid just as long as none of those that stood above it, nor its own object, was changed.
func TestGuardsByChance(t *testing.T) {
	type told struct {
		cell  int
		chain []api.Word
		when  []int
	}
	c := chance(131)
	for range 60 {
		h := heap.New(20)
		changed := map[api.Word]int{}
		var guards []told
		for range 300 {
			n := h.Objects()
			o := word.Object(uint32(c.below(n + 1)))
			switch c.below(9) {
			case 0:
				h.Make(c.below(8), one(&c, word.Null, o))
			case 1, 2:
				g := told{cell: h.Guard(o)}
				for p := o; g.cell >= 0 && p != word.Null; p = h.Proto(p) {
					g.chain, g.when = append(g.chain, p), append(g.when, changed[p])
				}
				if g.cell >= 0 {
					guards = append(guards, g)
				}
			case 3:
				was := h.Proto(o)
				h.SetProto(o, one(&c, word.Null, word.Object(uint32(c.below(n+1)))))
				if h.Proto(o) != was {
					changed[o]++
				}
			default:
				if anyChange(&c, h, o) {
					changed[o]++
				}
			}
			for _, g := range guards {
				want := true
				for i, p := range g.chain {
					want = want && changed[p] == g.when[i]
				}
				if h.Valid(g.cell) != want {
					t.Fatalf("cell %d over %x is valid: %v", g.cell, g.chain, !want)
				}
			}
		}
	}
}

// anyChange does something by chance with an object's own things, and tells whether it was done.
func anyChange(c *chance, h *heap.Heap, o api.Word) bool {
	_, is := h.Kind(o)
	key := one(c, "a", "b", "c")
	switch c.below(7) {
	case 0:
		h.Put(o, key, data(1, one(c, all, 3)))
		return is
	case 1:
		return h.Drop(o, key)
	case 2:
		return h.SetElem(o, one(c, -1, 0, 1, 5, api.MaxElems), word.True)
	case 3:
		return h.SetLen(o, one(c, -1, 0, 2, api.MaxElems+1))
	case 4:
		return h.Write(o, c.below(3)-1, word.Int(7))
	case 5:
		h.Close(o)
	case 6:
		h.SetInner(o, []api.Word{o})
	}
	return false
}
