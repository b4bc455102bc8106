package heap

import "brazier/api"

// Get is a property that is laid in an object; Put lays one; Drop takes one away; Keys are all, in the order in which they came.
func (h *Heap) Get(o api.Word, key string) (api.Desc, bool) {
	x := h.at(o)
	if x == nil {
		return api.Desc{}, false
	}
	n, ok := x.properties.find(key)
	if !ok {
		return api.Desc{}, false
	}
	return x.properties.list[n].desc, true
}

func (h *Heap) Put(o api.Word, key string, d api.Desc) {
	x := h.at(o)
	if x == nil {
		return
	}
	h.touch(x)
	d.Flags = kept(d.Flags)
	if n, ok := x.properties.find(key); ok {
		h.replace(x, n, d)
	} else {
		h.lay(x, key, d)
	}
}

// kept are the flags that a property is laid with.
func kept(flags int) int {
	flags &= api.Writable | api.Enumerable | api.Configurable | api.Accessor
	if flags&api.Accessor != 0 {
		flags &^= api.Writable
	}
	return flags
}

func (h *Heap) replace(x *object, n int, d api.Desc) {
	p := &x.properties.list[n]
	p.desc = d
	if x.shaped {
		x.shape, x.shaped = h.tree.Change(x.shape, p.key, d.Flags)
	}
}

func (h *Heap) lay(x *object, key string, d api.Desc) {
	x.properties.add(key, d)
	switch {
	case x.properties.size() > api.MaxFast:
		x.loseShape()
	case x.shaped:
		x.shape, x.shaped = h.tree.Add(x.shape, key, d.Flags)
	}
}

func (h *Heap) Drop(o api.Word, key string) bool {
	x := h.at(o)
	if x == nil {
		return false
	}
	n, ok := x.properties.find(key)
	if !ok {
		return false
	}
	h.touch(x)
	x.properties.drop(n)
	x.loseShape()
	return true
}

func (h *Heap) Keys(o api.Word) []string {
	x := h.at(o)
	if x == nil {
		return nil
	}
	return x.properties.keys()
}

// Slot is what lies in a place of Keys; Write lays a value there.
func (h *Heap) Slot(o api.Word, n int) (api.Desc, bool) {
	x := h.at(o)
	if x == nil || !x.properties.has(n) {
		return api.Desc{}, false
	}
	return x.properties.list[n].desc, true
}

func (h *Heap) Write(o api.Word, n int, w api.Word) bool {
	x := h.at(o)
	if x == nil || !x.properties.has(n) {
		return false
	}
	h.touch(x)
	x.properties.list[n].desc.Value = w
	return true
}
