package props_test

import (
	"testing"

	"brazier/api"
	"brazier/heap"
	"brazier/word"
)

// nothing tells that every call of a word that is no object tells nothing, and does nothing.
func nothing(t *testing.T, h *heap.Heap, o, there api.Word) {
	t.Helper()
	was := look(h)
	for _, key := range []string{"", "a", "0", "length", "4096"} {
		lacks(t, h, o, key)
		missed(t, h, o, key)
		defines(t, h, o, key, api.Wish{}, false)
		defines(t, h, o, key, whole(there, all), false)
		defines(t, h, o, key, api.Wish{Has: api.HasGet, Get: there}, false)
		defines(t, h, o, key, api.Wish{Has: -1, Flags: -1}, false)
		deletes(t, h, o, key, true)
		refused(t, h, o, key, there)
	}
	keys(t, h, o)
	protos(t, h, o, word.Null, false)
	protos(t, h, o, there, false)
	protos(t, h, o, o, false)
	if now := look(h); now != was {
		t.Fatalf("%x: of\n%s\ncame\n%s", o, was, now)
	}
}

// P14.2 to P14.7: words that are no objects, or none of the heap, for every call.
func TestStrangers(t *testing.T) {
	for _, n := range []int{0, 1, 3} {
		h := heap.New(9)
		there := word.Null
		for range n {
			there = of(t, h, api.KindArray, there)
			h.Put(there, "a", data(1, all))
			h.SetElem(there, 0, word.True)
		}
		for _, w := range strangers(h) {
			nothing(t, h, w, there)
			if n > 0 && w != word.Null {
				protos(t, h, there, w, false)
			}
		}
	}
}

// R1: a heap that is none.
func TestNoHeap(t *testing.T) {
	for _, h := range []*heap.Heap{nil, {}} {
		for _, w := range append(strangers(h), word.Object(0)) {
			nothing(t, h, w, word.Null)
		}
	}
}

// P14.3: flags and names beyond those that there are do nothing.
func TestFlagsBeyond(t *testing.T) {
	h := heap.New(9)
	o := object(t, h, word.Null)
	const far = -1 << 6
	defines(t, h, o, "a", api.Wish{Has: far | api.HasValue | names, Value: word.Int(1), Flags: -1}, true)
	owns(t, h, o, "a", data(1, all))
	defines(t, h, o, "a", api.Wish{Has: far, Value: word.Int(2), Get: o, Set: o, Flags: 0}, true)
	owns(t, h, o, "a", data(1, all))
	defines(t, h, o, "a", api.Wish{Has: far | api.HasEnumerable, Flags: -1 << 4}, true)
	owns(t, h, o, "a", data(1, 5))
}
