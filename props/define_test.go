package props_test

import (
	"fmt"
	"slices"
	"testing"

	"brazier/api"
	"brazier/heap"
	"brazier/word"
)

// P14.3: a new property: data of Undefined without flags, and what the wish names.
func TestDefineNew(t *testing.T) {
	u := word.Undefined
	one, two := word.Int(1), word.Int(2)
	for n, k := range []struct {
		w    api.Wish
		want api.Desc
	}{
		{api.Wish{}, api.Desc{Value: u, Set: u}},
		{api.Wish{Value: one, Get: one, Set: one, Flags: 15}, api.Desc{Value: u, Set: u}},
		{api.Wish{Has: api.HasValue, Value: one, Get: two, Set: two, Flags: 15}, api.Desc{Value: one, Set: u}},
		{api.Wish{Has: api.HasWritable, Value: one, Flags: 1}, api.Desc{Value: u, Set: u, Flags: 1}},
		{api.Wish{Has: api.HasWritable, Flags: 14}, api.Desc{Value: u, Set: u}},
		{api.Wish{Has: api.HasEnumerable, Flags: 2}, api.Desc{Value: u, Set: u, Flags: 2}},
		{api.Wish{Has: api.HasEnumerable, Flags: 13}, api.Desc{Value: u, Set: u}},
		{api.Wish{Has: api.HasConfigurable, Flags: 4}, api.Desc{Value: u, Set: u, Flags: 4}},
		{api.Wish{Has: api.HasConfigurable, Flags: 11}, api.Desc{Value: u, Set: u}},
		{api.Wish{Has: api.HasGet, Value: one, Get: two, Set: one, Flags: 15}, pair(two, u, 0)},
		{api.Wish{Has: api.HasSet, Value: one, Get: one, Set: two, Flags: 15}, pair(u, two, 0)},
		{api.Wish{Has: api.HasGet | api.HasSet, Get: one, Set: two, Flags: 15}, pair(one, two, 0)},
		{api.Wish{Has: api.HasGet | api.HasSet | api.HasEnumerable, Get: one, Set: two, Flags: 3}, pair(one, two, 2)},
		{api.Wish{Has: api.HasSet | api.HasConfigurable, Set: u, Flags: 7}, pair(u, u, 4)},
		{api.Wish{Has: api.HasValue | names, Value: one, Flags: 7}, data(1, 7)},
		{api.Wish{Has: api.HasValue | names, Value: one, Flags: 15}, data(1, 7)},
		{api.Wish{Has: api.HasValue | names, Value: one, Flags: -1}, data(1, 7)},
		{api.Wish{Has: api.HasValue | names, Value: one, Flags: 16 + 8}, data(1, 0)},
		{api.Wish{Has: 1<<40 | 64 | api.HasValue, Value: one, Flags: 1 << 40}, data(1, 0)},
		{api.Wish{Has: api.HasValue | names, Value: word.Hole, Flags: 7}, api.Desc{Value: word.Hole, Set: u, Flags: 7}},
		{api.Wish{Has: api.HasValue, Value: 1<<64 - 1}, api.Desc{Value: 1<<64 - 1, Set: u}},
	} {
		for _, most := range []int{0, 2, 256} {
			for kind := range 7 {
				h := heap.New(most)
				o := of(t, h, kind, word.Null)
				key := []string{"a", "", "01", "4096"}[n%4]
				defines(t, h, o, key, k.w, true)
				owns(t, h, o, key, k.want)
				if d, ok := h.Get(o, key); d != k.want || !ok || len(h.Keys(o)) != 1 {
					t.Errorf("%x lies as %x, %v", k.w, d, ok)
				}
			}
		}
	}
}

// P14.3: a getter or a setter beside a value or Writable is refused, of new keys and of old ones, whatever else is named.
func TestDefineBoth(t *testing.T) {
	h := heap.New(99)
	o, a := object(t, h, word.Null), array(t, h, word.True)
	h.Put(o, "data", data(1, all))
	h.Put(o, "pair", pair(o, o, 6))
	h.Put(o, "fixed", data(1, 0))
	for has := range 64 {
		if has&(api.HasGet|api.HasSet) == 0 || has&(api.HasValue|api.HasWritable) == 0 {
			continue
		}
		for _, flags := range []int{0, 7, 15} {
			w := api.Wish{Has: has, Value: word.Int(1), Get: o, Set: o, Flags: flags}
			for _, key := range []string{"data", "pair", "fixed", "new", "0", "length"} {
				defines(t, h, o, key, w, false)
				defines(t, h, a, key, w, false)
			}
		}
	}
}

// becomes is what an old property comes to by a wish: a second reading of the promise, word by word.
func becomes(old api.Desc, w api.Wish) api.Desc {
	accessor := old.Flags&api.Accessor != 0
	value, get, set := old.Value, old.Value, old.Set
	flags := [3]bool{old.Flags&1 != 0, old.Flags&2 != 0, old.Flags&4 != 0}
	if w.Has&(api.HasGet|api.HasSet) != 0 && !accessor {
		accessor, get, set, flags[0] = true, word.Undefined, word.Undefined, false
	} else if w.Has&(api.HasValue|api.HasWritable) != 0 && accessor {
		accessor, value, set, flags[0] = false, word.Undefined, word.Undefined, false
	}
	for n, has := range []int{api.HasWritable, api.HasEnumerable, api.HasConfigurable} {
		if w.Has&has != 0 {
			flags[n] = w.Flags>>n&1 != 0
		}
	}
	if w.Has&api.HasValue != 0 {
		value = w.Value
	}
	if w.Has&api.HasGet != 0 {
		get = w.Get
	}
	if w.Has&api.HasSet != 0 {
		set = w.Set
	}
	d := api.Desc{Value: value, Set: set}
	if accessor {
		d = api.Desc{Value: get, Set: set, Flags: api.Accessor}
	}
	for n, is := range flags {
		if is {
			d.Flags |= 1 << n
		}
	}
	return d
}

// allowed tells whether an old property may become another one.
func allowed(old, now api.Desc) bool {
	if old.Flags&api.Configurable != 0 || old == now {
		return true
	}
	wasData := old.Flags&api.Accessor == 0 && old.Flags&api.Writable != 0
	isData := now.Flags&api.Accessor == 0 && now.Flags&api.Configurable == 0
	return wasData && isData && old.Flags&api.Enumerable == now.Flags&api.Enumerable
}

// wishes are all that name no two things that don't go together: of the values that there are, and of others.
func wishes(value, get, set []api.Word) []api.Wish {
	var l []api.Wish
	for has := range 64 {
		if has&(api.HasGet|api.HasSet) != 0 && has&(api.HasValue|api.HasWritable) != 0 {
			continue
		}
		for flags := range 16 {
			for n := range value {
				for i := range set {
					l = append(l, api.Wish{Has: has, Value: value[n], Get: get[n], Set: set[i], Flags: flags})
				}
			}
		}
	}
	return l
}

// P14.3: each of the sixteen old flags against each wish: what may be is, in its place; what may not be changes nothing.
func TestDefineOld(t *testing.T) {
	words := []api.Word{word.Int(1), word.Int(2), word.Undefined}
	all := wishes(words, words, words[:2])
	for flags := range 16 {
		h := heap.New(256)
		old := api.Desc{Value: word.Int(1), Set: word.Undefined, Flags: flags}
		if flags >= api.Accessor {
			old = pair(word.Int(1), word.Int(1), flags&^api.Writable)
		}
		for _, w := range all {
			o := object(t, h, word.Null)
			h.Put(o, "x", data(5, 7))
			h.Put(o, "a", old)
			h.Put(o, "y", data(6, 7))
			if flags%2 == 0 {
				h.Close(o)
			}
			want := becomes(old, w)
			if allowed(old, want) {
				defines(t, h, o, "a", w, true)
				owns(t, h, o, "a", want)
			} else {
				defines(t, h, o, "a", w, false)
				owns(t, h, o, "a", old)
			}
			if !slices.Equal(h.Keys(o), []string{"x", "a", "y"}) {
				t.Fatalf("keys are %q", h.Keys(o))
			}
			// A heap of its own now and then: look, which reads it all, is to stay quick.
			if h.Objects() == 30 {
				h = heap.New(256)
			}
		}
	}
}

// P14.3: an old one that is not Configurable, by examples.
func TestDefineFixed(t *testing.T) {
	h := heap.New(99)
	o := object(t, h, word.Null)
	flag := func(has, flags int) api.Wish { return api.Wish{Has: has, Flags: flags} }
	h.Put(o, "w", data(1, api.Writable|api.Enumerable))
	defines(t, h, o, "w", api.Wish{}, true)
	defines(t, h, o, "w", value(word.Int(1)), true)
	defines(t, h, o, "w", value(word.Int(2)), true)
	owns(t, h, o, "w", data(2, 3))
	defines(t, h, o, "w", flag(api.HasEnumerable, 0), false)
	defines(t, h, o, "w", flag(api.HasEnumerable, 2), true)
	defines(t, h, o, "w", flag(api.HasConfigurable, 4), false)
	defines(t, h, o, "w", flag(api.HasConfigurable, 3), true)
	defines(t, h, o, "w", api.Wish{Has: api.HasGet, Get: o}, false)
	defines(t, h, o, "w", api.Wish{Has: api.HasSet, Set: word.Undefined}, false)
	defines(t, h, o, "w", api.Wish{Has: api.HasValue | api.HasWritable, Value: word.Int(3)}, true)
	owns(t, h, o, "w", data(3, 2))
	// It is not Writable now: nothing but itself.
	defines(t, h, o, "w", flag(api.HasWritable, 1), false)
	defines(t, h, o, "w", flag(api.HasWritable, 14), true)
	defines(t, h, o, "w", value(word.Int(3)), true)
	defines(t, h, o, "w", value(word.Int(4)), false)
	defines(t, h, o, "w", whole(word.Int(3), 2), true)
	defines(t, h, o, "w", whole(word.Int(3), 0), false)
	owns(t, h, o, "w", data(3, 2))

	h.Put(o, "p", pair(o, word.True, 2))
	defines(t, h, o, "p", api.Wish{}, true)
	defines(t, h, o, "p", api.Wish{Has: api.HasGet, Get: o}, true)
	defines(t, h, o, "p", api.Wish{Has: api.HasGet | api.HasSet, Get: o, Set: word.True}, true)
	defines(t, h, o, "p", api.Wish{Has: api.HasGet, Get: word.Undefined}, false)
	defines(t, h, o, "p", api.Wish{Has: api.HasSet, Set: word.False}, false)
	defines(t, h, o, "p", value(o), false)
	defines(t, h, o, "p", flag(api.HasWritable, 0), false)
	defines(t, h, o, "p", flag(api.HasEnumerable, 0), false)
	defines(t, h, o, "p", flag(api.HasConfigurable, 4), false)
	owns(t, h, o, "p", pair(o, word.True, 2))

	// Words are told apart as such: 0 and -0 are two, no number and itself one.
	h.Put(o, "zero", data(0, 0))
	defines(t, h, o, "zero", value(word.Number(1<<63)), false)
	defines(t, h, o, "zero", value(word.Int(0)), true)
	nan := word.Number(0x7ff8000000000000)
	h.Put(o, "nan", api.Desc{Value: nan, Set: word.Undefined})
	defines(t, h, o, "nan", value(nan), true)
}

// P14.3: Configurable ones become each other, and keep what is not named.
func TestDefineTurned(t *testing.T) {
	h := heap.New(99)
	o := object(t, h, word.Null)
	h.Put(o, "a", data(1, 7))
	defines(t, h, o, "a", api.Wish{Has: api.HasSet, Set: o}, true)
	owns(t, h, o, "a", pair(word.Undefined, o, 6))
	defines(t, h, o, "a", api.Wish{Has: api.HasGet, Get: word.True}, true)
	owns(t, h, o, "a", pair(word.True, o, 6))
	defines(t, h, o, "a", api.Wish{Has: api.HasEnumerable}, true)
	owns(t, h, o, "a", pair(word.True, o, 4))
	defines(t, h, o, "a", api.Wish{Has: api.HasWritable, Flags: 1}, true)
	owns(t, h, o, "a", api.Desc{Value: word.Undefined, Set: word.Undefined, Flags: 5})
	defines(t, h, o, "a", api.Wish{Has: api.HasGet, Get: word.True}, true)
	defines(t, h, o, "a", value(word.Int(3)), true)
	owns(t, h, o, "a", data(3, 4))
	defines(t, h, o, "a", api.Wish{Has: api.HasConfigurable}, true)
	owns(t, h, o, "a", data(3, 0))
}

// P14.3: an array's `length`: an Int from 0 to MaxElems, and Writable alone.
func TestDefineLength(t *testing.T) {
	h := heap.New(99)
	a := array(t, h, word.True, word.False)
	for _, n := range []int32{0, 1, 4096, 4095, 3, 3, 0, 2} {
		defines(t, h, a, "length", value(word.Int(n)), true)
		owns(t, h, a, "length", data(n, api.Writable))
	}
	lacks(t, h, a, "0")
	h.SetElem(a, 1, word.True)
	wrong := append(strangers(h), word.Int(-1), word.Int(4097), word.Int(-1<<31), word.Int(1<<31-1), word.Number(0x4000000000000000)^1, 0x4000000000000000, a)
	wrong = slices.DeleteFunc(wrong, func(w api.Word) bool {
		n, ok := word.IsInt(w)
		return ok && n >= 0 && n <= 4096
	})
	for _, w := range wrong {
		defines(t, h, a, "length", value(w), false)
		defines(t, h, a, "length", whole(w, api.Writable), false)
	}
	for has := range 64 {
		for flags := range 16 {
			w := api.Wish{Has: has, Value: word.Int(2), Get: word.Int(2), Set: word.Undefined, Flags: flags}
			d := becomes(data(2, api.Writable), w)
			both := has&48 != 0 && has&3 != 0
			defines(t, h, a, "length", w, !both && d.Flags == api.Writable)
			owns(t, h, a, "length", data(2, api.Writable))
			owns(t, h, a, "1", api.Desc{Value: word.True, Set: word.Undefined, Flags: all})
		}
	}
	h.Close(a)
	defines(t, h, a, "length", value(word.Int(4)), true)
	owns(t, h, a, "length", data(4, api.Writable))
	lacks(t, h, a, "3")
	if len(h.Keys(a)) != 0 {
		t.Errorf("keys are %q", h.Keys(a))
	}
}

// P14.3: an array's Index: data that may all; no flag of it may be missing.
func TestDefineElement(t *testing.T) {
	h := heap.New(99)
	for has := range 64 {
		for flags := range 16 {
			w := api.Wish{Has: has, Value: word.Int(8), Get: word.Int(9), Set: word.True, Flags: flags}
			both := has&48 != 0 && has&3 != 0
			for _, old := range []bool{false, true} {
				a := array(t, h, word.Int(1), word.Hole)
				key, was := "1", api.Desc{Value: word.Undefined, Set: word.Undefined}
				if old {
					key, was = "0", data(1, all)
				}
				want := becomes(was, w)
				is := !both && want.Flags == all
				defines(t, h, a, key, w, is)
				if is {
					owns(t, h, a, key, want)
				} else if old {
					owns(t, h, a, key, was)
				} else {
					lacks(t, h, a, key)
				}
				if len(h.Keys(a)) != 0 || h.Len(a) != 2 {
					t.Errorf("keys are %q, %d elements", h.Keys(a), h.Len(a))
				}
				if h.Objects() == 30 {
					h = heap.New(99)
				}
			}
		}
	}
}

// P14.3: elements behind the last, the last that there can be, holes that are laid.
func TestDefineElements(t *testing.T) {
	h := heap.New(99)
	a := array(t, h)
	defines(t, h, a, "2", whole(word.True, all), true)
	owns(t, h, a, "length", data(3, 1))
	lacks(t, h, a, "1")
	defines(t, h, a, "2", whole(word.Hole, all), true)
	lacks(t, h, a, "2")
	owns(t, h, a, "length", data(3, 1))
	defines(t, h, a, "2", value(word.True), false)
	defines(t, h, a, "5", whole(word.Hole, all), true)
	owns(t, h, a, "length", data(6, 1))
	defines(t, h, a, "4095", whole(word.Int(1), all), true)
	owns(t, h, a, "length", data(4096, 1))
	defines(t, h, a, "4095", value(word.Int(2)), true)
	owns(t, h, a, "4095", data(2, all))
	// 4096 and 01 are keys as others.
	for _, key := range []string{"4096", "01", "-1", ""} {
		defines(t, h, a, key, value(word.Int(3)), true)
		owns(t, h, a, key, data(3, 0))
	}
	owns(t, h, a, "length", data(4096, 1))
	// Of what is no array an Index, and `length`, are so too.
	o := object(t, h, word.Null)
	for _, key := range []string{"0", "length", "4095"} {
		defines(t, h, o, key, value(word.True), true)
		owns(t, h, o, key, api.Desc{Value: word.True, Set: word.Undefined})
		defines(t, h, o, key, value(word.False), false)
	}
	if h.Len(o) != 0 {
		t.Errorf("%d elements", h.Len(o))
	}
}

// P14.3, P14.8: an object that is not Open gets no key that it has not; what it has may be changed.
func TestDefineClosed(t *testing.T) {
	for _, kind := range []int{api.KindPlain, api.KindArray, api.KindError} {
		h := heap.New(99)
		p := object(t, h, word.Null)
		o := of(t, h, kind, p)
		h.Put(p, "above", data(1, all))
		h.Put(o, "a", data(1, all))
		h.SetElem(o, 0, word.True)
		h.SetElem(o, 2, word.True)
		h.Close(o)
		for _, key := range []string{"new", "above", "1", "3", "4095", "4096", ""} {
			defines(t, h, o, key, whole(word.Int(1), all), false)
			defines(t, h, o, key, api.Wish{}, false)
			defines(t, h, o, key, api.Wish{Has: api.HasGet, Get: o}, false)
			refused(t, h, o, key, word.Int(1))
		}
		defines(t, h, o, "a", value(word.Int(2)), true)
		owns(t, h, o, "a", data(2, all))
		defines(t, h, o, "a", api.Wish{Has: api.HasGet, Get: o}, true)
		owns(t, h, o, "a", pair(o, word.Undefined, 6))
		defines(t, h, o, "0", value(word.False), kind == api.KindArray)
		defines(t, h, o, "length", value(word.Int(9)), kind == api.KindArray)
		deletes(t, h, o, "a", true)
		lacks(t, h, o, "a")
		defines(t, h, o, "a", value(word.Int(2)), false)
		if kind == api.KindArray {
			deletes(t, h, o, "0", true)
			defines(t, h, o, "0", whole(word.True, all), false)
			defines(t, h, o, "8", whole(word.True, all), false)
		}
	}
}

// P14.3: one object's property is not another's, also where both have one shape.
func TestDefineApart(t *testing.T) {
	h := heap.New(99)
	var l []api.Word
	for range 5 {
		o := object(t, h, word.Null)
		for n := range 20 {
			defines(t, h, o, fmt.Sprint("k", n), whole(word.Int(int32(n)), all), true)
		}
		l = append(l, o)
	}
	defines(t, h, l[2], "k3", api.Wish{Has: api.HasEnumerable}, true)
	defines(t, h, l[3], "k3", api.Wish{Has: api.HasGet, Get: word.True}, true)
	for n, o := range l {
		want := data(3, all)
		switch n {
		case 2:
			want = data(3, 5)
		case 3:
			want = pair(word.True, word.Undefined, 6)
		}
		owns(t, h, o, "k3", want)
		owns(t, h, o, "k19", data(19, all))
	}
}
