package heap_test

import (
	"math"
	"slices"
	"testing"

	"brazier/api"
	"brazier/heap"
	"brazier/word"
)

// P13.4: elements that are laid behind each other, in the midst, far behind: holes between; of every kind of object.
func TestSetElem(t *testing.T) {
	h := heap.New(99)
	for kind := range 7 {
		o := of(t, h, kind, word.Null)
		hole := word.Hole
		a, b, c := word.Int(1), word.Text(2), o
		for _, k := range []struct {
			at   int
			w    api.Word
			want []api.Word
		}{
			{0, a, []api.Word{a}},
			{1, b, []api.Word{a, b}},
			{0, c, []api.Word{c, b}},
			{4, a, []api.Word{c, b, hole, hole, a}},
			{3, word.Undefined, []api.Word{c, b, hole, word.Undefined, a}},
			{4, b, []api.Word{c, b, hole, word.Undefined, b}},
			{5, word.Null, []api.Word{c, b, hole, word.Undefined, b, word.Null}},
		} {
			if !h.SetElem(o, k.at, k.w) {
				t.Errorf("no element at %d", k.at)
			}
			holds(t, h, o, k.want...)
		}
		keys(t, h, o)
	}
}

// P13.4: a word.Hole that is laid is a hole: it has a place, and nothing lies there.
func TestHoles(t *testing.T) {
	h := heap.New(99)
	o := object(t, h, word.Null)
	if !h.SetElem(o, 2, word.Hole) {
		t.Error("no hole is laid")
	}
	holds(t, h, o, word.Hole, word.Hole, word.Hole)
	h.SetElem(o, 1, word.True)
	holds(t, h, o, word.Hole, word.True, word.Hole)
	if !h.SetElem(o, 1, word.Hole) {
		t.Error("no hole is laid in a place")
	}
	holds(t, h, o, word.Hole, word.Hole, word.Hole)
	h.SetElem(o, 1, word.False)
	holds(t, h, o, word.Hole, word.False, word.Hole)
}

// P13.4: a shorter list, and a longer one again: what lay there is gone.
func TestSetLen(t *testing.T) {
	h := heap.New(99)
	o := object(t, h, word.Null)
	want := make([]api.Word, 0, 64)
	for n, size := range []int{0, 3, 3, 1, 5, 0, 0, 8, 7, 8, 2, 40, 1, 40} {
		if !h.SetLen(o, size) {
			t.Errorf("SetLen(%d)", size)
		}
		for len(want) < size {
			want = append(want, word.Hole)
		}
		want = want[:size]
		holds(t, h, o, want...)
		for i := range want {
			if i%3 != 2 {
				want[i] = word.Int(int32(n*100 + i))
				h.SetElem(o, i, want[i])
			}
		}
		holds(t, h, o, want...)
	}
	// By SetElem, too.
	h.SetLen(o, 1)
	h.SetElem(o, 3, word.True)
	holds(t, h, o, want[0], word.Hole, word.Hole, word.True)
}

// P13.4: places and lengths at 0, at MaxElems less one, at MaxElems, and beyond both ends.
func TestElemLimits(t *testing.T) {
	h := heap.New(99)
	o, p := object(t, h, word.Null), object(t, h, word.Null)
	if !h.SetElem(o, api.MaxElems-1, word.True) || h.Len(o) != api.MaxElems {
		t.Errorf("the last place: %d elements", h.Len(o))
	}
	if !h.SetLen(p, api.MaxElems) || h.Len(p) != api.MaxElems {
		t.Errorf("the greatest length: %d elements", h.Len(p))
	}
	for _, x := range []api.Word{o, p, object(t, h, word.Null)} {
		h.SetElem(x, 0, word.Int(5))
		was, size := look(h, 0), h.Len(x)
		for _, n := range numbers(api.MaxElems) {
			if h.SetElem(x, n, word.False) {
				t.Errorf("an element at %d", n)
			}
			if w, ok := h.Elem(x, n); w != word.Undefined || ok {
				t.Errorf("element %d is %x, %v", n, w, ok)
			}
			if n != api.MaxElems && h.SetLen(x, n) {
				t.Errorf("%d elements", n)
			}
		}
		if look(h, 0) != was {
			t.Errorf("%d elements, behind %d", h.Len(x), size)
		}
		if h.SetElem(x, api.MaxElems, word.False) || h.SetLen(x, api.MaxElems+1) || h.Len(x) != size {
			t.Errorf("%d elements, behind %d", h.Len(x), size)
		}
		if !h.SetLen(x, api.MaxElems) || !h.SetLen(x, api.MaxElems-1) || !h.SetLen(x, 0) || h.Len(x) != 0 {
			t.Errorf("%d elements in the end", h.Len(x))
		}
	}
}

// P13.4: elements by all words, also such as can't be.
func TestElemWords(t *testing.T) {
	h := heap.New(99)
	o := object(t, h, word.Null)
	all := append(strangers(h), o)
	for n, w := range all {
		h.SetElem(o, n, w)
	}
	holds(t, h, o, all...)
}

// P13.4: the elements of one object are not another's, nor its prototype's.
func TestElementsApart(t *testing.T) {
	h := heap.New(99)
	p := object(t, h, word.Null)
	o, x := object(t, h, p), object(t, h, p)
	h.SetElem(p, 1, word.True)
	holds(t, h, o)
	h.SetElem(o, 0, word.False)
	h.SetLen(x, 2)
	holds(t, h, p, word.Hole, word.True)
	holds(t, h, o, word.False)
	holds(t, h, x, word.Hole, word.Hole)
	h.SetLen(p, 0)
	holds(t, h, o, word.False)
}

// P13.5: words are told as they were given, each time; others take their place, and nothing else changes.
func TestInner(t *testing.T) {
	h := heap.New(99)
	o, p := object(t, h, word.Null), object(t, h, word.Null)
	h.Put(o, "a", data(1, all))
	h.SetElem(o, 0, word.True)
	guard(t, h, o, 0, 0)
	was := shape(t, h, o)
	for _, l := range [][]api.Word{{}, {o}, strangers(h), nil, {word.Hole, word.Hole}, make([]api.Word, 10000), {1}, {}, {2}, nil} {
		h.SetInner(o, l)
		for range 2 {
			if got := h.Inner(o); !slices.Equal(got, l) {
				t.Errorf("inner words are %x, not %x", got, l)
			}
		}
		if len(h.Inner(p)) != 0 || shape(t, h, o) != was {
			t.Error("something else is changed")
		}
		keys(t, h, o, "a")
		holds(t, h, o, word.True)
		guard(t, h, o, 0, 0)
	}
}

// P13.5, R5: words that were handed in, or told, are changed by the caller: nothing else changes.
func TestInnerCopies(t *testing.T) {
	h := heap.New(99)
	o, p := object(t, h, word.Null), object(t, h, word.Null)
	given := make([]api.Word, 3, 8)
	copy(given, []api.Word{word.Int(1), word.Int(2), word.Int(3)})
	want := slices.Clone(given)
	h.SetInner(o, given)
	h.SetInner(p, given)
	given[0] = math.MaxUint64
	given = append(given, word.True)
	first, second := h.Inner(o), h.Inner(o)
	first[1] = word.False
	_ = append(first, word.True)
	_ = append(first[:1], word.True, word.True)
	if !slices.Equal(second, want) || !slices.Equal(h.Inner(o), want) || !slices.Equal(h.Inner(p), want) {
		t.Errorf("%x, %x, %x, not %x", second, h.Inner(o), h.Inner(p), want)
	}
	h.SetInner(o, h.Inner(p)[:2])
	if !slices.Equal(h.Inner(o), want[:2]) || !slices.Equal(h.Inner(p), want) || len(given) != 4 {
		t.Errorf("%x, %x", h.Inner(o), h.Inner(p))
	}
}
