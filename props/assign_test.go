package props_test

import (
	"testing"

	"brazier/api"
	"brazier/heap"
	"brazier/props"
	"brazier/word"
)

// P14.2 to P14.7: the chapter's examples.
func TestExamples(t *testing.T) {
	h := heap.New(99)
	o := object(t, h, word.Null)
	done(t, h, o, "a", word.Int(3))
	owns(t, h, o, "a", data(3, all))

	x := object(t, h, word.Null)
	defines(t, h, x, "a", value(word.Int(1)), true)
	refused(t, h, x, "a", word.Int(2))
	deletes(t, h, x, "a", false)

	a := array(t, h, word.Int(1), word.Int(2))
	owns(t, h, a, "length", data(2, api.Writable))
	defines(t, h, a, "length", value(word.Int(5)), true)
	lacks(t, h, a, "3")
	done(t, h, a, "9", word.True)
	owns(t, h, a, "length", data(10, api.Writable))

	p := object(t, h, word.Null)
	below := object(t, h, p)
	protos(t, h, p, below, false)
}

// P14.4: data and accessors of all flags: gone just if they are Configurable; what is not there is gone already.
func TestDelete(t *testing.T) {
	for _, most := range []int{0, 256} {
		for flags := range 16 {
			h := heap.New(most)
			p := object(t, h, word.Null)
			o := object(t, h, p)
			d := data(1, flags)
			if flags >= api.Accessor {
				d = pair(o, o, flags&6)
			}
			h.Put(p, "a", d)
			h.Put(o, "x", data(1, all))
			h.Put(o, "a", d)
			h.Put(o, "y", data(2, all))
			is := flags&api.Configurable != 0
			deletes(t, h, o, "a", is)
			if is {
				lacks(t, h, o, "a")
				deletes(t, h, o, "a", true)
				keys(t, h, o, "x", "y")
			} else {
				owns(t, h, o, "a", d)
			}
			// What stands above is not touched.
			owns(t, h, p, "a", d)
			was := look(h)
			deletes(t, h, o, "b", true)
			deletes(t, h, o, "", true)
			deletes(t, h, o, "0", true)
			deletes(t, h, o, "length", true)
			if look(h) != was {
				t.Error("what is not there is taken away")
			}
		}
	}
}

// P14.4: an array's element becomes a hole, its length stays; `length` is not Configurable.
func TestDeleteElement(t *testing.T) {
	h := heap.New(99)
	a := array(t, h, word.True, word.Hole, word.Undefined)
	was := look(h)
	deletes(t, h, a, "1", true)
	deletes(t, h, a, "3", true)
	deletes(t, h, a, "4095", true)
	deletes(t, h, a, "4096", true)
	deletes(t, h, a, "00", true)
	deletes(t, h, a, "-1", true)
	if look(h) != was {
		t.Error("what is not there is taken away")
	}
	deletes(t, h, a, "length", false)
	deletes(t, h, a, "2", true)
	lacks(t, h, a, "2")
	owns(t, h, a, "0", api.Desc{Value: word.True, Set: word.Undefined, Flags: all})
	owns(t, h, a, "length", data(3, 1))
	deletes(t, h, a, "0", true)
	keys(t, h, a)
	owns(t, h, a, "length", data(3, 1))
	// Elements of what is no array are no properties; its keys are.
	o := object(t, h, word.Null)
	h.SetElem(o, 0, word.True)
	h.Put(o, "0", data(1, all))
	h.Put(o, "length", data(1, all))
	deletes(t, h, o, "0", true)
	deletes(t, h, o, "length", true)
	lacks(t, h, o, "0")
	lacks(t, h, o, "length")
	if w, ok := h.Elem(o, 0); w != word.True || !ok {
		t.Error("an element is gone")
	}
}

// P14.5: a property of the object's own: data of all flags, accessors with a setter and without.
func TestAssignOwn(t *testing.T) {
	for _, closed := range []bool{false, true} {
		for flags := range 8 {
			h := heap.New(99)
			p := object(t, h, word.Null)
			o := object(t, h, p)
			// What stands above has no say.
			h.Put(p, "a", data(9, 0))
			h.Put(p, "b", pair(o, o, 0))
			h.Put(p, "c", data(9, all))
			h.Put(o, "a", data(1, flags))
			h.Put(o, "b", data(2, flags))
			h.Put(o, "c", pair(p, word.True, flags&6))
			h.Put(o, "d", pair(p, word.Undefined, flags&6))
			if closed {
				h.Close(o)
			}
			if flags&api.Writable != 0 {
				done(t, h, o, "a", word.Int(5))
				done(t, h, o, "b", word.Int(6))
				owns(t, h, o, "a", data(5, flags))
				owns(t, h, o, "b", data(6, flags))
			} else {
				refused(t, h, o, "a", word.Int(5))
				refused(t, h, o, "a", word.Int(1))
				refused(t, h, o, "b", word.Int(6))
			}
			assigns(t, h, o, "c", word.Int(7), word.True, api.AssignCall)
			refused(t, h, o, "d", word.Int(7))
		}
	}
}

// P14.5: a prototype's, one or more above: data that is Writable gives way, other data refuses, an accessor is asked.
func TestAssignAbove(t *testing.T) {
	for _, closed := range []bool{false, true} {
		for flags := range 8 {
			for high := 1; high < 4; high++ {
				h := heap.New(99)
				top := object(t, h, word.Null)
				p := top
				h.Put(top, "a", data(1, flags))
				h.Put(top, "c", pair(top, word.True, flags&6))
				h.Put(top, "d", pair(top, word.Undefined, flags&6))
				for range high {
					p = object(t, h, p)
				}
				o := p
				if closed {
					h.Close(o)
				}
				if flags&api.Writable != 0 && !closed {
					done(t, h, o, "a", word.Int(5))
					owns(t, h, o, "a", data(5, all))
				} else {
					refused(t, h, o, "a", word.Int(5))
				}
				owns(t, h, top, "a", data(1, flags))
				assigns(t, h, o, "c", word.Int(7), word.True, api.AssignCall)
				refused(t, h, o, "d", word.Int(7))
				if closed {
					refused(t, h, o, "e", word.Int(8))
				} else {
					done(t, h, o, "e", word.Int(8))
					owns(t, h, o, "e", data(8, all))
				}
				lacks(t, h, top, "e")
			}
		}
	}
}

// P14.5: a setter is told as it lies, even if it can't be called: only Undefined is none.
func TestAssignSetters(t *testing.T) {
	h := heap.New(99)
	o := object(t, h, word.Null)
	for _, w := range append(strangers(h), o) {
		h.Put(o, "a", pair(o, w, 0))
		if w == word.Undefined {
			refused(t, h, o, "a", word.True)
		} else {
			assigns(t, h, o, "a", word.True, w, api.AssignCall)
		}
	}
}

// P14.5: elements, `length`, and what stands above an array.
func TestAssignArray(t *testing.T) {
	h := heap.New(99)
	top := object(t, h, word.Null)
	a := of(t, h, api.KindArray, top)
	done(t, h, a, "1", word.Int(1))
	owns(t, h, a, "1", data(1, all))
	done(t, h, a, "1", word.Int(2))
	owns(t, h, a, "1", data(2, all))
	done(t, h, a, "length", word.Int(4))
	owns(t, h, a, "length", data(4, 1))
	for _, w := range []api.Word{word.Int(-1), word.Int(4097), word.True, word.Undefined, word.Text(0), 0x3ff8000000000000, a} {
		refused(t, h, a, "length", w)
	}
	done(t, h, a, "2", word.Hole)
	lacks(t, h, a, "2")
	h.Put(top, "0", data(9, 6))
	refused(t, h, a, "0", word.True)
	h.Put(top, "3", pair(top, word.False, 0))
	assigns(t, h, a, "3", word.True, word.False, api.AssignCall)
	// One that lies in the array itself hides those.
	h.SetElem(a, 3, word.Int(7))
	done(t, h, a, "3", word.Int(8))
	owns(t, h, a, "3", data(8, all))
	done(t, h, a, "4096", word.Int(8))
	owns(t, h, a, "4096", data(8, all))
	owns(t, h, a, "length", data(4, 1))
	// An array above: its elements and its length give way to data of the object's own.
	o := object(t, h, a)
	done(t, h, o, "1", word.Int(5))
	owns(t, h, o, "1", data(5, all))
	owns(t, h, a, "1", data(2, all))
	done(t, h, o, "length", word.True)
	owns(t, h, o, "length", api.Desc{Value: word.True, Set: word.Undefined, Flags: all})
	owns(t, h, a, "length", data(4, 1))
	h.Close(a)
	refused(t, h, a, "2", word.True)
	refused(t, h, a, "4", word.True)
	done(t, h, a, "1", word.True)
	done(t, h, a, "length", word.Int(4096))
	refused(t, h, a, "4095", word.True)
}

// P14.6: elements that are there, rising; then the keys that can be enumerated, in the order in which they came.
func TestKeys(t *testing.T) {
	for kind := range 7 {
		h := heap.New(99)
		p := object(t, h, word.Null)
		o := of(t, h, kind, p)
		keys(t, h, o)
		done(t, h, p, "above", word.True)
		done(t, h, o, "b", word.True)
		done(t, h, o, "", word.True)
		done(t, h, o, "a", word.True)
		defines(t, h, o, "hidden", whole(word.True, 5), true)
		defines(t, h, o, "get", api.Wish{Has: api.HasGet | api.HasEnumerable, Get: o, Flags: 2}, true)
		defines(t, h, o, "set", api.Wish{Has: api.HasSet, Set: o}, true)
		done(t, h, o, "01", word.True)
		keys(t, h, o, "b", "", "a", "get", "01")
		for _, n := range []int{11, 2, 10, 0, 100, 1, 9} {
			h.SetElem(o, n, word.True)
		}
		h.SetElem(o, 1, word.Hole)
		h.SetElem(o, 9, word.Undefined)
		h.SetElem(o, 3, word.Null)
		keys(t, h, o, "0", "2", "3", "9", "10", "11", "100", "b", "", "a", "get", "01")
		deletes(t, h, o, "b", true)
		keys(t, h, o, "0", "2", "3", "9", "10", "11", "100", "", "a", "get", "01")
		done(t, h, o, "b", word.False)
		defines(t, h, o, "hidden", api.Wish{Has: api.HasEnumerable, Flags: 2}, true)
		defines(t, h, o, "", api.Wish{Has: api.HasEnumerable}, true)
		h.SetLen(o, 10)
		keys(t, h, o, "0", "2", "3", "9", "a", "hidden", "get", "01", "b")
		h.Close(o)
		keys(t, h, o, "0", "2", "3", "9", "a", "hidden", "get", "01", "b")
		keys(t, h, p, "above")
	}
}

// P14.6: what is no array has its Index among its keys, in the order in which they came.
func TestKeysOfIndexes(t *testing.T) {
	h := heap.New(99)
	o, a := object(t, h, word.Null), array(t, h)
	for _, x := range []api.Word{o, a} {
		for _, key := range []string{"10", "b", "9", "a", "0", "4096"} {
			done(t, h, x, key, word.True)
		}
	}
	keys(t, h, o, "10", "b", "9", "a", "0", "4096")
	keys(t, h, a, "0", "9", "10", "b", "a", "4096")
	// R5: what is told is the caller's own.
	l := props.Keys(h, a)
	for n := range l {
		l[n] = "x"
	}
	_ = append(l[:1], "y", "z")
	keys(t, h, a, "0", "9", "10", "b", "a", "4096")
}

// P14.7, P14.8: to itself, to one below it, to the prototype that there is, to others; open and closed.
func TestSetProto(t *testing.T) {
	h := heap.New(99)
	top := object(t, h, word.Null)
	mid := object(t, h, top)
	low := of(t, h, api.KindArray, mid)
	beside := object(t, h, word.Null)
	for _, o := range []api.Word{top, mid, low} {
		protos(t, h, o, o, false)
		protos(t, h, o, h.Proto(o), true)
	}
	protos(t, h, top, mid, false)
	protos(t, h, top, low, false)
	protos(t, h, mid, low, false)
	protos(t, h, low, top, true)
	protos(t, h, mid, low, true)
	protos(t, h, low, mid, false)
	protos(t, h, top, low, false)
	protos(t, h, top, beside, true)
	protos(t, h, beside, mid, false)
	protos(t, h, mid, word.Null, true)
	protos(t, h, beside, mid, true)
	protos(t, h, mid, low, false)
	found(t, h, low, "length", low, data(0, 1))

	was := look(h)
	for _, o := range []api.Word{top, mid, low, beside} {
		protos(t, h, o, h.Proto(o), true)
	}
	if look(h) != was {
		t.Error("the prototype that there is changes something")
	}
	h.Close(low)
	protos(t, h, low, top, true)
	for _, p := range []api.Word{word.Null, mid, beside, low} {
		protos(t, h, low, p, false)
	}
	// One that is closed may stand above others.
	x := object(t, h, word.Null)
	protos(t, h, x, low, true)
	h.Close(mid)
	protos(t, h, mid, word.Null, true)
	protos(t, h, mid, x, false)
}
