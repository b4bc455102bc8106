package shapes

// The kinds of steps.
const (
	begin = iota // from nothing
	add
	change
)

// step leads to a shape: from another one, but for the one that begins.
type step struct {
	kind  int
	proto uint64
	from  int
	key   string
	flags int
}

// layout is a shape: its last step, the slot of that step's key, and how many keys there are.
// The keys ahead are told by the shapes that it came from: so each shape takes the same room, however many keys it has.
type layout struct {
	step
	slot, size int
}

// property is a key with the flags that it has at last.
type property struct {
	key   string
	flags int
	laid  bool
}

func (t *Tree) there(shape int) bool {
	return shape >= 0 && shape < t.Count()
}

// take is the shape to which a layout's step leads: the known one, else a new one, if there is room.
func (t *Tree) take(l layout) (int, bool) {
	if t == nil {
		return 0, false
	}
	if known, ok := t.ways[l.step]; ok {
		return known, true
	}
	fresh := len(t.layouts)
	if fresh >= t.most {
		return 0, false
	}
	t.layouts = append(t.layouts, l)
	t.ways[l.step] = fresh
	return fresh, true
}

// lay is a shape that there is, with a key more that it has not.
func (t *Tree) lay(shape int, key string, flags int) (int, bool) {
	from := t.layouts[shape]
	by := step{kind: add, proto: from.proto, from: shape, key: key, flags: flags}
	return t.take(layout{step: by, slot: from.size, size: from.size + 1})
}

// properties are those of a shape that there is, by their slots.
func (t *Tree) properties(shape int) []property {
	list := make([]property, t.layouts[shape].size)
	for l := &t.layouts[shape]; l.kind != begin; l = &t.layouts[l.from] {
		// The last step that names a key comes first here: it alone tells the flags.
		if p := &list[l.slot]; !p.laid {
			*p = property{key: l.key, flags: l.flags, laid: true}
		}
	}
	return list
}
