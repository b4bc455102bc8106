package engine_test

import (
	"slices"
	"strconv"

	"brazier/api"
)

// thing is an object of the model.
type thing struct {
	kind   int
	proto  *thing
	closed bool
	order  []string
	slots  map[string]slot
	elems  []value

	does   func(this value, args []value) value // of what can be called
	native bool
	makes  bool // new may take it, though it is a native
	star   bool
	runner *runner // a generator's
}

// slot is a property.
type slot struct {
	value, get, set value
	isAccessor      bool
	w, e, c         bool
}

func data(v value, w, e, c bool) slot { return slot{value: v, w: w, e: e, c: c} }

func (s slot) same(t slot) bool {
	return sameWord(s.value, t.value) && sameWord(s.get, t.get) && sameWord(s.set, t.set) && s.isAccessor == t.isAccessor && s.w == t.w && s.e == t.e && s.c == t.c
}

// wished is what a property is to be: what of it is not named is not in it.
type wished map[string]value

func (w wished) names(keys ...string) bool {
	return slices.ContainsFunc(keys, func(key string) bool { _, ok := w[key]; return ok })
}

// element is the place of an element that a key names.
func element(key string) (int, bool) {
	n, err := strconv.Atoi(key)
	return n, err == nil && n >= 0 && n < api.MaxElems && strconv.Itoa(n) == key
}

func (o *thing) isArray() bool { return o.kind == api.KindArray }

func (o *thing) own(key string) (slot, bool) {
	if o.isArray() {
		if key == "length" {
			return data(float64(len(o.elems)), true, false, false), true
		}
		if n, ok := element(key); ok {
			if n < len(o.elems) && o.elems[n] != (hole{}) {
				return data(o.elems[n], true, true, true), true
			}
			return slot{}, false
		}
	}
	s, ok := o.slots[key]
	return s, ok
}

// find is a property of an object, or of what stands above it.
func (o *thing) find(key string) (slot, *thing) {
	for ; o != nil; o = o.proto {
		if s, ok := o.own(key); ok {
			return s, o
		}
	}
	return slot{}, nil
}

// lay puts a property of a name where it was, or behind the others.
func (o *thing) lay(key string, s slot) {
	if _, ok := o.slots[key]; !ok {
		o.order = append(o.order, key)
	}
	o.slots[key] = s
}

func (o *thing) resize(n int) {
	for len(o.elems) < n {
		o.elems = append(o.elems, hole{})
	}
	o.elems = o.elems[:n]
}

// become is a property as it is wished.
func (w wished) become(s slot) slot {
	if w.names("get", "set") && !s.isAccessor {
		s = slot{isAccessor: true, e: s.e, c: s.c}
	}
	if w.names("value", "writable") && s.isAccessor {
		s = slot{e: s.e, c: s.c}
	}
	for key, v := range w {
		switch key {
		case "value":
			s.value = v
		case "get":
			s.get = v
		case "set":
			s.set = v
		case "writable":
			s.w = isTruthy(v)
		case "enumerable":
			s.e = isTruthy(v)
		case "configurable":
			s.c = isTruthy(v)
		}
	}
	return s
}

// define makes a property what is wished, if that may be.
func (o *thing) define(key string, w wished) bool {
	old, has := o.own(key)
	if w.names("get", "set") && w.names("value", "writable") || !has && o.closed {
		return false
	}
	s := w.become(old)
	if has && !old.c && !s.same(old) && (old.isAccessor || !old.w || s.isAccessor || s.e != old.e || s.c) {
		return false
	}
	if o.isArray() {
		if key == "length" {
			n, ok := s.value.(float64)
			if !ok || !s.w || n < 0 || n > api.MaxElems || !sameWord(n, float64(int(n))) {
				return false
			}
			o.resize(int(n))
			return true
		}
		if n, ok := element(key); ok {
			if s.isAccessor || !s.w || !s.e || !s.c {
				return false
			}
			o.resize(max(len(o.elems), n+1))
			o.elems[n] = s.value
			return true
		}
	}
	o.lay(key, s)
	return true
}

func (o *thing) drop(key string) bool {
	s, has := o.own(key)
	if !has {
		return true
	}
	if !s.c {
		return false
	}
	if n, ok := element(key); ok && o.isArray() {
		o.elems[n] = hole{}
		return true
	}
	delete(o.slots, key)
	o.order = slices.DeleteFunc(o.order, func(k string) bool { return k == key })
	return true
}

// assign gives a property a value; a setter that is to be called for that is told, and whether all went well.
func (o *thing) assign(key string, v value) (value, bool) {
	s, at := o.find(key)
	switch {
	case at != nil && s.isAccessor:
		return s.set, s.set != nil
	case at != nil && !s.w:
		return nil, false
	case at == o:
		return nil, o.define(key, wished{"value": v})
	}
	return nil, o.define(key, wished{"value": v, "writable": true, "enumerable": true, "configurable": true})
}

func (o *thing) keys() []string {
	var l []string
	for n, v := range o.elems {
		if v != (hole{}) {
			l = append(l, strconv.Itoa(n))
		}
	}
	for _, key := range o.order {
		if o.slots[key].e {
			l = append(l, key)
		}
	}
	return l
}

// under tells whether an object stands somewhere under another one, or is it.
func (o *thing) under(above *thing) bool {
	for ; o != nil; o = o.proto {
		if o == above {
			return true
		}
	}
	return false
}

func (o *thing) setProto(v value) bool {
	p, ok := v.(*thing)
	switch {
	case !ok && v != (null{}):
		return false
	case p == o.proto:
		return true
	case o.closed || p.under(o):
		return false
	}
	o.proto = p
	return true
}
