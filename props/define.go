package props

import (
	"brazier/api"
	"brazier/heap"
	"brazier/word"
)

// What a wish names of accessors alone, and of data alone.
const (
	namesAccessor = api.HasGet | api.HasSet
	namesData     = api.HasValue | api.HasWritable
)

// flagPairs are what a wish names a flag by, and the flag.
var flagPairs = [3][2]int{
	{api.HasWritable, api.Writable},
	{api.HasEnumerable, api.Enumerable},
	{api.HasConfigurable, api.Configurable},
}

// Define makes a property what it is wished to be; Delete takes one away; Assign gives one a value: a setter that is to be called, and how it went.
func Define(h *heap.Heap, o api.Word, key string, w api.Wish) bool {
	if !isObject(h, o) || w.Has&namesAccessor != 0 && w.Has&namesData != 0 {
		return false
	}
	old, has := Own(h, o, key)
	if !has {
		if !h.Open(o) {
			return false
		}
		return lay(h, o, key, wished(dataOf(word.Undefined, 0), w))
	}
	d := wished(old, w)
	return mayBecome(old, d) && lay(h, o, key, d)
}

// wished is what a property becomes of an old one.
func wished(d api.Desc, w api.Wish) api.Desc {
	d = turned(d, w)
	for _, pair := range flagPairs {
		if w.Has&pair[0] != 0 {
			d.Flags = d.Flags&^pair[1] | w.Flags&pair[1]
		}
	}
	if w.Has&api.HasValue != 0 {
		d.Value = w.Value
	}
	if w.Has&api.HasGet != 0 {
		d.Value = w.Get
	}
	if w.Has&api.HasSet != 0 {
		d.Set = w.Set
	}
	return d
}

// turned is data as an accessor, or an accessor as data, if the wish names what the old one can't have.
func turned(d api.Desc, w api.Wish) api.Desc {
	names := namesAccessor
	if isAccessor(d) {
		names = namesData
	}
	if w.Has&names == 0 {
		return d
	}
	return dataOf(word.Undefined, (d.Flags^api.Accessor)&^api.Writable)
}

func isAccessor(d api.Desc) bool {
	return d.Flags&api.Accessor != 0
}

func mayBecome(old, d api.Desc) bool {
	if old.Flags&api.Configurable != 0 || d == old {
		return true
	}
	if isAccessor(old) || old.Flags&api.Writable == 0 {
		return false
	}
	return d.Flags&^api.Writable == old.Flags&^api.Writable
}

// lay lays a property; an array's own ones are laid where its elements are, if these can be so.
func lay(h *heap.Heap, o api.Word, key string, d api.Desc) bool {
	if isArray(h, o) {
		if key == length {
			n, ok := word.IsInt(d.Value)
			return ok && d.Flags == api.Writable && h.SetLen(o, int(n))
		}
		if n, ok := Index(key); ok {
			return d.Flags == free && h.SetElem(o, n, d.Value)
		}
	}
	h.Put(o, key, d)
	return true
}

func Delete(h *heap.Heap, o api.Word, key string) bool {
	d, has := Own(h, o, key)
	if !has {
		return true
	}
	if d.Flags&api.Configurable == 0 {
		return false
	}
	n, isPlace := Index(key)
	if _, there := h.Elem(o, n); there && isPlace && isArray(h, o) {
		return h.SetElem(o, n, word.Hole)
	}
	return h.Drop(o, key)
}

func Assign(h *heap.Heap, o api.Word, key string, v api.Word) (api.Word, int) {
	holder, d, has := Lookup(h, o, key)
	if has && isAccessor(d) {
		if d.Set == word.Undefined {
			return word.Undefined, api.AssignRefused
		}
		return d.Set, api.AssignCall
	}
	if has && d.Flags&api.Writable == 0 {
		return word.Undefined, api.AssignRefused
	}
	w := api.Wish{Has: api.HasValue, Value: v}
	if !has || holder != o {
		w.Has |= api.HasWritable | api.HasEnumerable | api.HasConfigurable
		w.Flags = free
	}
	if !Define(h, o, key, w) {
		return word.Undefined, api.AssignRefused
	}
	return word.Undefined, api.AssignDone
}
