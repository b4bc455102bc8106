package heap

import (
	"brazier/api"
	"brazier/shapes"
)

func treeOf(most int) *shapes.Tree {
	return shapes.New(min(most, api.MaxShapes))
}

// rootOf is the number under which shapes know a prototype, together with a kind: what they say is then true of the kind, too.
func rootOf(kind int, proto api.Word) uint64 {
	return uint64(proto)*8 + uint64(kind)
}

func (x *object) loseShape() {
	x.shape, x.shaped = 0, false
}

// touch is ahead of each change of an object that somebody may have looked at from below.
func (h *Heap) touch(x *object) {
	h.breaks += h.guards.Break(x.cell)
}

// Shape is an object's shape; Find where it lays a property; Guard is a cell that is valid as long as nothing changes from a prototype on upwards; Valid tells whether one is.
func (h *Heap) Shape(o api.Word) (int, bool) {
	x := h.at(o)
	if x == nil {
		return 0, false
	}
	return x.shape, x.shaped
}

func (h *Heap) Find(shape int, key string) (int, int, bool) {
	if !h.made() {
		return 0, 0, false
	}
	return h.tree.Find(shape, key)
}

func (h *Heap) Guard(p api.Word) int {
	var bare []*object // from p on upwards, those whose cell is not valid
	cell := noCell
	for x := h.at(p); x != nil; x = h.at(x.proto) {
		if h.guards.Valid(x.cell) {
			cell = x.cell
			break
		}
		bare = append(bare, x)
	}
	for n := len(bare) - 1; n >= 0; n-- {
		cell = h.guards.Make(cell)
		bare[n].cell = cell
	}
	return cell
}

func (h *Heap) Valid(cell int) bool {
	return h.made() && h.guards.Valid(cell)
}
