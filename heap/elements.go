package heap

import (
	"brazier/api"
	"brazier/word"
)

// Len is how many elements there are, holes too; Elem is one; SetElem lays one; SetLen makes them so many.
func (h *Heap) Len(o api.Word) int {
	x := h.at(o)
	if x == nil {
		return 0
	}
	return len(x.elements)
}

func (h *Heap) Elem(o api.Word, n int) (api.Word, bool) {
	x := h.at(o)
	if x == nil || n < 0 || n >= len(x.elements) || x.elements[n] == word.Hole {
		return word.Undefined, false
	}
	return x.elements[n], true
}

func (h *Heap) SetElem(o api.Word, n int, w api.Word) bool {
	x := h.at(o)
	if x == nil || n < 0 || n >= api.MaxElems {
		return false
	}
	h.touch(x)
	if n >= len(x.elements) {
		x.resize(n + 1)
	}
	x.elements[n] = w
	return true
}

func (h *Heap) SetLen(o api.Word, n int) bool {
	x := h.at(o)
	if x == nil || n < 0 || n > api.MaxElems {
		return false
	}
	h.touch(x)
	x.resize(n)
	return true
}

// resize lays a hole in each new place: also where something lay ahead of a shorter length.
func (x *object) resize(n int) {
	if n < len(x.elements) {
		x.elements = x.elements[:n]
	}
	for len(x.elements) < n {
		x.elements = append(x.elements, word.Hole)
	}
}

// Inner are words that an object has for itself; SetInner others.
func (h *Heap) Inner(o api.Word) []api.Word {
	x := h.at(o)
	if x == nil {
		return nil
	}
	return copied(x.inner)
}

func (h *Heap) SetInner(o api.Word, l []api.Word) {
	if x := h.at(o); x != nil {
		x.inner = copied(l)
	}
}

func copied(l []api.Word) []api.Word {
	own := make([]api.Word, len(l))
	copy(own, l)
	return own
}
