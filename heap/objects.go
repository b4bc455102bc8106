package heap

import (
	"brazier/api"
	"brazier/word"
)

// noCell is what Guard tells of what is no object, and what an object has of which it told none yet.
const noCell = -1

// object is what there is of one. While it has a shape, that one says the same of its properties as they do themselves.
type object struct {
	kind       int
	proto      api.Word
	closed     bool
	above      bool // it is a prototype, or was one
	properties table
	elements   []api.Word
	inner      []api.Word
	shape      int
	shaped     bool
	cell       int // the one that was told last
}

// at is the object of a word, nil, if there is none. It is to be asked anew once another object is made.
func (h *Heap) at(o api.Word) *object {
	n, ok := word.IsObject(o)
	if !ok || int64(n) >= int64(h.Objects()) {
		return nil
	}
	return &h.objects[n]
}

// Make makes an object; Kind, Proto, Open tell of one; Close lets it get no more properties; SetProto gives it another prototype.
func (h *Heap) Make(kind int, proto api.Word) (api.Word, bool) {
	if kind < api.KindPlain || kind > api.KindError || !h.mayBeProto(proto) {
		return word.Undefined, false
	}
	if !h.made() || len(h.objects) >= api.MaxObjects {
		return word.Undefined, false
	}
	h.raise(proto)
	x := object{kind: kind, proto: proto, cell: noCell}
	x.shape, x.shaped = h.tree.Root(rootOf(kind, proto))
	h.objects = append(h.objects, x)
	return word.Object(uint32(len(h.objects) - 1)), true
}

func (h *Heap) Kind(o api.Word) (int, bool) {
	x := h.at(o)
	if x == nil {
		return 0, false
	}
	return x.kind, true
}

func (h *Heap) Proto(o api.Word) api.Word {
	x := h.at(o)
	if x == nil {
		return word.Null
	}
	return x.proto
}

func (h *Heap) Open(o api.Word) bool {
	x := h.at(o)
	return x != nil && !x.closed
}

func (h *Heap) Close(o api.Word) {
	if x := h.at(o); x != nil {
		x.closed = true
	}
}

func (h *Heap) SetProto(o, p api.Word) {
	x := h.at(o)
	// Under the prototype that there is nothing becomes another thing: no cell breaks, and the shape stays.
	if x == nil || p == x.proto || !h.mayBeProto(p) || h.standsAbove(o, p) {
		return
	}
	h.touch(x)
	h.raise(p)
	x.proto = p
	if x.shaped {
		x.shape, x.shaped = h.tree.Move(x.shape, rootOf(x.kind, p))
	}
}

func (h *Heap) mayBeProto(p api.Word) bool {
	return p == word.Null || h.at(p) != nil
}

// raise keeps in mind that there is something below an object.
func (h *Heap) raise(p api.Word) {
	if x := h.at(p); x != nil {
		x.above = true
	}
}

// standsAbove tells whether an object is p, or one of the prototypes above it.
func (h *Heap) standsAbove(o, p api.Word) bool {
	if p == o {
		return true
	}
	// Without this a long row of prototypes would be gone through for each object that is laid below it.
	if !h.at(o).above {
		return false
	}
	for x := h.at(p); x != nil; x = h.at(x.proto) {
		if x.proto == o {
			return true
		}
	}
	return false
}
