package machine_test

import (
	"math"
	"slices"

	"brazier/api"
)

var inf = math.Inf(1)

// thrown is what a program throws.
type thrown struct{ value value }

// stops ends the model: "memory", or "fuel".
type stops string

// model runs a tree.
type model struct {
	log      []string
	end      string
	fuel     int
	steps    int
	depth    int
	natives  int
	builtins []value
	protos   map[string]*object
	prims    value
	idle     []func()
}

func (w *model) burn() {
	w.steps++
	if w.steps > w.fuel {
		panic(stops("fuel"))
	}
}

// text is one for which there must be room.
func (w *model) text(s string) string {
	if len(s) > api.MaxText {
		panic(stops("memory"))
	}
	return s
}

func (w *model) object(kind int, under *object) *object {
	return &object{kind: kind, under: under, props: map[string]*property{}}
}

func (w *model) plain() *object { return w.object(api.KindPlain, w.protos["Object"]) }

func (w *model) array() *object { return w.object(api.KindArray, w.protos["Array"]) }

// record is a new object with those properties, keys and values by turns.
func (w *model) record(l ...value) *object {
	o := w.plain()
	for i := 0; i < len(l); i += 2 {
		o.lay(l[i].(string), property{value: l[i+1], w: true, e: true, c: true})
	}
	return o
}

func (w *model) newError(kind string, message value) *object {
	o := w.object(api.KindError, w.protos[kind])
	if message != nil {
		o.hide("message", w.text(shown(message)))
	}
	return o
}

func (w *model) fail(kind, message string) {
	panic(thrown{w.newError(kind, w.text(message))})
}

func (w *model) get(of value, key string) value {
	w.burn()
	from, _ := of.(*object)
	switch x := of.(type) {
	case nil, null:
		w.fail("TypeError", "read "+key)
	case string:
		if key == "length" {
			return float64(len(x))
		}
		if i, ok := place(key); ok && i < len(x) {
			return x[i : i+1]
		}
		from = w.protos["String"]
	case float64:
		from = w.protos["Number"]
	case bool:
		from = w.protos["Boolean"]
	}
	p, _ := from.lookup(key)
	switch {
	case p == nil, p.accessor && p.get == nil:
		return nil
	case p.accessor:
		return w.call(p.get, of)
	}
	return p.value
}

func (w *model) set(of value, key string, v value) {
	w.burn()
	o, ok := of.(*object)
	if !ok {
		w.fail("TypeError", "write "+key)
	}
	setter, done := o.assign(key, v)
	if !done {
		w.fail("TypeError", "write "+key)
	}
	if setter != nil {
		w.call(setter, of, v)
	}
}

func (w *model) delete(of value, key string) bool {
	w.burn()
	o, ok := of.(*object)
	if !ok || !o.remove(key) {
		w.fail("TypeError", "delete")
	}
	return true
}

func (w *model) in(key string, of value) bool {
	w.burn()
	o, ok := of.(*object)
	if !ok {
		w.fail("TypeError", "in")
	}
	p, _ := o.lookup(key)
	return p != nil
}

// proto is a function's prototype, if it is data and an object.
func proto(f *object) *object {
	p, _ := f.lookup("prototype")
	if p == nil || p.accessor {
		return nil
	}
	o, _ := p.value.(*object)
	return o
}

func (w *model) instance(v, of value) bool {
	w.burn()
	f, _ := of.(*object)
	if !isCallable(of) || proto(f) == nil {
		w.fail("TypeError", "instanceof")
	}
	o, ok := v.(*object)
	for ok && o.under != nil {
		if o = o.under; o == proto(f) {
			return true
		}
	}
	return false
}

func (w *model) call(f, this value, args ...value) value {
	w.burn()
	if !isCallable(f) {
		w.fail("TypeError", "call")
	}
	o := f.(*object)
	if o.native != nil {
		return w.callNative(o, this, args)
	}
	defer w.enter()()
	return o.body(this, args)
}

// callNative gives up natives that call each other for ever.
func (w *model) callNative(o *object, this value, args []value) value {
	w.natives++
	defer func() { w.natives-- }()
	if w.natives > 10000 {
		w.fail("RangeError", "calls")
	}
	return o.native(this, slices.Clone(args))
}

// enter counts a call that is under way, till what it tells is called.
func (w *model) enter() func() {
	if w.depth >= api.MaxFrames {
		w.fail("RangeError", "calls")
	}
	w.depth++
	return func() { w.depth-- }
}

func (w *model) construct(f value, args ...value) value {
	w.burn()
	o, _ := f.(*object)
	if !isCallable(f) || o.star || o.native != nil && !o.makes {
		w.fail("TypeError", "new")
	}
	if o.native != nil {
		return w.call(f, nil, args...)
	}
	made := w.plain()
	if p := proto(o); p != nil {
		made.under = p
	}
	if told := w.call(f, made, args...); isThing(told) {
		return told
	}
	return made
}

// The stages of a generator.
const (
	fresh = iota
	waits
	runs
	over
)

func (w *model) goOn(this value, how int, sent value) value {
	g, ok := this.(*object)
	if !ok || g.kind != api.KindGenerator {
		w.fail("TypeError", "generator")
	}
	if g.stage == runs {
		w.fail("TypeError", "generator runs")
	}
	if g.stage == over || g.stage == fresh && how > 0 {
		g.stage = over
		switch how {
		case 0:
			return w.record("value", nil, "done", true)
		case 1:
			panic(thrown{sent})
		}
		return w.record("value", sent, "done", true)
	}
	defer w.enter()()
	g.stage = runs
	next := over
	defer func() { g.stage = next }()
	v, done := g.resume(how, sent)
	if !done {
		next = waits
	}
	return w.record("value", v, "done", done)
}

func (w *model) prim(v value, text bool) value {
	w.burn()
	switch {
	case !isThing(v):
		return v
	case text:
		return w.call(w.prims, nil, v, "toString", "valueOf")
	}
	return w.call(w.prims, nil, v, "valueOf", "toString")
}

// primIf is a primitive, if the other one is one, and neither null nor undefined.
func (w *model) primIf(v, other value) value {
	if isThing(other) || lacks(other) {
		return v
	}
	return w.prim(v, false)
}
