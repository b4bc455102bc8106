package heap_test

import (
	"fmt"
	"math"
	"slices"
	"strings"
	"testing"

	"brazier/api"
	"brazier/heap"
	"brazier/word"
)

// all are the flags of data that may all.
const all = api.Writable | api.Enumerable | api.Configurable

// none stands for no shape, and for no cell.
const none = -1

// data is a property of a whole number.
func data(n int32, flags int) api.Desc {
	return api.Desc{Value: word.Int(n), Set: word.Undefined, Flags: flags}
}

// name is a key by its number.
func name(n int) string { return fmt.Sprint("k", n) }

// object makes one of KindPlain that there must be room for.
func object(t *testing.T, h *heap.Heap, proto api.Word) api.Word {
	t.Helper()
	return of(t, h, api.KindPlain, proto)
}

// of is an object of the next number.
func of(t *testing.T, h *heap.Heap, kind int, proto api.Word) api.Word {
	t.Helper()
	n := h.Objects()
	o, ok := h.Make(kind, proto)
	if o != word.Object(uint32(n)) || !ok || h.Objects() != n+1 {
		t.Fatalf("Make(%d, %x), with %d objects there, is %x, %v", kind, proto, n, o, ok)
	}
	return o
}

// fill lays the keys from and on, below to.
func fill(h *heap.Heap, o api.Word, from, to int) {
	for n := from; n < to; n++ {
		h.Put(o, name(n), data(int32(n), all))
	}
}

// shape is an object's, or none.
func shape(t *testing.T, h *heap.Heap, o api.Word) int {
	t.Helper()
	s, ok := h.Shape(o)
	if ok {
		return s
	}
	if s != 0 {
		t.Errorf("object %x has no shape, with %d", o, s)
	}
	return none
}

// shaped tells that an object has that shape, and that there are so many.
func shaped(t *testing.T, h *heap.Heap, o api.Word, want, count int) {
	t.Helper()
	if got := shape(t, h, o); got != want || h.Shapes() != count {
		t.Errorf("the shape of %x is %d of %d, not %d of %d", o, got, h.Shapes(), want, count)
	}
}

// keys tells that an object has just these, each in its place, by Keys, Get and Slot.
func keys(t *testing.T, h *heap.Heap, o api.Word, want ...string) {
	t.Helper()
	got := h.Keys(o)
	if !slices.Equal(got, want) {
		t.Errorf("the keys of %x are %q, not %q", o, got, want)
	}
	for n, k := range got {
		d, ok := h.Get(o, k)
		at, is := h.Slot(o, n)
		if !ok || !is || d != at {
			t.Errorf("%q of %x is %v, %v, in its place %v, %v", k, o, d, ok, at, is)
		}
	}
	if d, ok := h.Slot(o, len(got)); ok || d != (api.Desc{}) {
		t.Errorf("behind the last place of %x is %v, %v", o, d, ok)
	}
}

// lies tells what is laid under a key.
func lies(t *testing.T, h *heap.Heap, o api.Word, key string, want api.Desc) {
	t.Helper()
	if d, ok := h.Get(o, key); d != want || !ok {
		t.Errorf("%q of %x is %v, %v, not %v", key, o, d, ok, want)
	}
}

// lacks tells that an object has not the key.
func lacks(t *testing.T, h *heap.Heap, o api.Word, key string) {
	t.Helper()
	if d, ok := h.Get(o, key); d != (api.Desc{}) || ok {
		t.Errorf("%q of %x is %v, %v", key, o, d, ok)
	}
}

// under tells an object's prototype.
func under(t *testing.T, h *heap.Heap, o, want api.Word) {
	t.Helper()
	if got := h.Proto(o); got != want {
		t.Errorf("the prototype of %x is %x, not %x", o, got, want)
	}
}

// holds tells that an object has just these elements, holes among them.
func holds(t *testing.T, h *heap.Heap, o api.Word, want ...api.Word) {
	t.Helper()
	if h.Len(o) != len(want) {
		t.Errorf("%x has %d elements, not %d", o, h.Len(o), len(want))
	}
	for n, w := range want {
		is := w != word.Hole
		if !is {
			w = word.Undefined
		}
		if got, ok := h.Elem(o, n); got != w || ok != is {
			t.Errorf("element %d of %x is %x, %v, not %x, %v", n, o, got, ok, w, is)
		}
	}
	if got, ok := h.Elem(o, len(want)); got != word.Undefined || ok {
		t.Errorf("behind the elements of %x is %x, %v", o, got, ok)
	}
}

// valid tells that, of the cells below count, just these are.
func valid(t *testing.T, h *heap.Heap, count int, want ...int) {
	t.Helper()
	var got []int
	for n := range count {
		if h.Valid(n) {
			got = append(got, n)
		}
	}
	if !slices.Equal(got, want) {
		t.Errorf("valid are %v, not %v", got, want)
	}
	if h.Valid(count) || h.Valid(-1) {
		t.Errorf("valid is one that there is not, of %d", count)
	}
}

// guard tells an object's cell, which is valid then, and how many have broken.
func guard(t *testing.T, h *heap.Heap, o api.Word, want, breaks int) {
	t.Helper()
	if got := h.Guard(o); got != want || !h.Valid(got) || h.Breaks() != breaks {
		t.Errorf("the guard of %x is %d, %v, behind %d breaks; not %d behind %d", o, got, h.Valid(got), h.Breaks(), want, breaks)
	}
}

// look is all that a heap tells of what it has, with the cells below count.
func look(h *heap.Heap, count int) string {
	var b strings.Builder
	fmt.Fprintln(&b, h.Objects(), h.Shapes(), h.Breaks())
	for n := range h.Objects() {
		o := word.Object(uint32(n))
		kind, is := h.Kind(o)
		s, ok := h.Shape(o)
		fmt.Fprintf(&b, "%d: %d %v %x %v, shape %d %v, inner %x", n, kind, is, h.Proto(o), h.Open(o), s, ok, h.Inner(o))
		for i, k := range h.Keys(o) {
			d, is := h.Get(o, k)
			at, ok := h.Slot(o, i)
			fmt.Fprintf(&b, ", %q: %x %v %x %v", k, d, is, at, ok)
		}
		for i := range h.Len(o) {
			w, ok := h.Elem(o, i)
			fmt.Fprintf(&b, ", %x %v", w, ok)
		}
		fmt.Fprintln(&b)
	}
	for n := range count {
		fmt.Fprint(&b, h.Valid(n), " ")
	}
	return b.String()
}

// numbers are those that no place, shape, cell or kind has.
func numbers(from int) []int {
	return []int{math.MinInt, math.MinInt + 1, -1 << 32, -2, -1, from, from + 1, 1 << 16, 1<<31 - 1, 1 << 31, 1 << 32, 1<<32 + 1, math.MaxInt - 1, math.MaxInt}
}

// strangers are words that are no objects of a heap.
func strangers(h *heap.Heap) []api.Word {
	n := uint32(h.Objects())
	return []api.Word{
		word.Undefined, word.Null, word.False, word.True, word.Hole,
		word.Int(0), word.Int(1), word.Int(-1), word.Text(0), word.Text(1),
		word.Object(n), word.Object(n + 1), word.Object(1 << 31), word.Object(math.MaxUint32),
		word.Number(0x3fe0000000000000), word.Number(0x7ff8000000000000), word.Number(1 << 63),
		// words that can't be
		0, 1, math.MaxUint64, word.Object(0) | 1<<32, word.Object(0) | 1<<47, word.Null + 4, word.Null | 1<<32, api.TagObject, api.TagObject << 32,
	}
}

// chance is a row of numbers that is always the same one.
type chance uint64

func (c *chance) below(n int) int {
	*c = *c*6364136223846793005 + 1442695040888963407
	return int(uint64(*c)>>33) % n
}

func one[T any](c *chance, l ...T) T { return l[c.below(len(l))] }
