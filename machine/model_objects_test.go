package machine_test

import (
	"slices"
	"strconv"

	"brazier/api"
)

// object is one of the model's: what chapters 13 and 14 say of one.
type object struct {
	kind   int
	under  *object
	closed bool
	keys   []string
	props  map[string]*property
	elems  []value

	native func(this value, args []value) value
	makes  bool // a native that new takes

	body func(this value, args []value) value // of a function of the program
	star bool

	stage  int // of a generator
	resume func(how int, sent value) (value, bool)
}

// property has the flags writable, enumerable, configurable.
type property struct {
	value, get, set value
	accessor        bool
	w, e, c         bool
}

// wish is what of a property is named: value, get, set, writable, enumerable, configurable.
type wish map[string]value

func (w wish) names(keys ...string) bool {
	return slices.ContainsFunc(keys, func(key string) bool { _, ok := w[key]; return ok })
}

func place(key string) (int, bool) {
	i, err := strconv.Atoi(key)
	return i, err == nil && i >= 0 && i < api.MaxElems && strconv.Itoa(i) == key
}

func (o *object) own(key string) *property {
	if o.kind == api.KindArray {
		if key == "length" {
			return &property{value: float64(len(o.elems)), w: true}
		}
		if i, ok := place(key); ok {
			if i < len(o.elems) && o.elems[i] != (hole{}) {
				return &property{value: o.elems[i], w: true, e: true, c: true}
			}
			return nil
		}
	}
	return o.props[key]
}

func (o *object) lookup(key string) (*property, *object) {
	for ; o != nil; o = o.under {
		if p := o.own(key); p != nil {
			return p, o
		}
	}
	return nil, nil
}

// lay lays a property as it is.
func (o *object) lay(key string, p property) {
	if o.props[key] == nil {
		o.keys = append(o.keys, key)
	}
	o.props[key] = &p
}

// hide lays data that is not enumerated.
func (o *object) hide(key string, v value) { o.lay(key, property{value: v, w: true, c: true}) }

func (o *object) define(key string, w wish) bool {
	if w.names("get", "set") && w.names("value", "writable") {
		return false
	}
	old := o.own(key)
	var p property
	if old == nil {
		if o.closed {
			return false
		}
	} else {
		p = *old
	}
	p.turn(w)
	if old != nil && !old.may(p) {
		return false
	}
	return o.keep(key, p)
}

func (p *property) turn(w wish) {
	if w.names("get", "set") && !p.accessor || w.names("value", "writable") && p.accessor {
		*p = property{accessor: !p.accessor, e: p.e, c: p.c}
	}
	for key, v := range w {
		switch key {
		case "value":
			p.value = v
		case "get":
			p.get = v
		case "set":
			p.set = v
		case "writable":
			p.w = truthy(v)
		case "enumerable":
			p.e = truthy(v)
		case "configurable":
			p.c = truthy(v)
		}
	}
}

// may tells whether a property may become another one.
func (p *property) may(q property) bool {
	if p.c {
		return true
	}
	if identical(p.value, q.value) && p.get == q.get && p.set == q.set && p.accessor == q.accessor && p.w == q.w && p.e == q.e && p.c == q.c {
		return true
	}
	return !p.accessor && p.w && !q.accessor && p.e == q.e && !q.c
}

// keep lays a property where it belongs.
func (o *object) keep(key string, p property) bool {
	i, isPlace := place(key)
	switch {
	case o.kind == api.KindArray && key == "length":
		n, ok := p.value.(float64)
		if !ok || identical(n, -1/inf) || n != float64(int(n)) || n < 0 || n > api.MaxElems || p.accessor || !p.w || p.e || p.c {
			return false
		}
		o.resize(int(n))
	case o.kind == api.KindArray && isPlace:
		if p.accessor || !p.w || !p.e || !p.c {
			return false
		}
		o.resize(max(i+1, len(o.elems)))
		o.elems[i] = p.value
	default:
		o.lay(key, p)
	}
	return true
}

func (o *object) resize(n int) {
	o.elems = o.elems[:min(n, len(o.elems))]
	for len(o.elems) < n {
		o.elems = append(o.elems, hole{})
	}
}

func (o *object) remove(key string) bool {
	p := o.own(key)
	if p == nil {
		return true
	}
	if !p.c {
		return false
	}
	if i, ok := place(key); ok && o.kind == api.KindArray {
		o.elems[i] = hole{}
		return true
	}
	delete(o.props, key)
	o.keys = slices.DeleteFunc(o.keys, func(k string) bool { return k == key })
	return true
}

// assign tells whether it was done; or the setter that is to be called.
func (o *object) assign(key string, v value) (setter value, done bool) {
	p, at := o.lookup(key)
	switch {
	case p != nil && p.accessor:
		return p.set, p.set != nil
	case p != nil && !p.w:
		return nil, false
	case at == o:
		return nil, o.define(key, wish{"value": v})
	}
	return nil, o.define(key, wish{"value": v, "writable": true, "enumerable": true, "configurable": true})
}

func (o *object) enumerated() []string {
	var l []string
	for i, v := range o.elems {
		if v != (hole{}) {
			l = append(l, strconv.Itoa(i))
		}
	}
	for _, key := range o.keys {
		if o.props[key].e {
			l = append(l, key)
		}
	}
	return l
}

func (o *object) setUnder(p value) bool {
	under, ok := p.(*object)
	if !ok && p != (null{}) {
		return false
	}
	if o.under == under {
		return true
	}
	for x := under; x != nil; x = x.under {
		if x == o {
			return false
		}
	}
	if o.closed {
		return false
	}
	o.under = under
	return true
}
