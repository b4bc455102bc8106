package emit_test

import (
	"math"
	"slices"
	"strconv"
	"strings"

	"brazier/api"
	"brazier/numtext"
)

// The world in which the tests run programs: what chapter 17 says of values, properties and calls, as far as programs of the tests need it. Both the runner (of code) and the walker (of trees) stand on it: what they have for themselves is which of it is done, in which order.

// value is nothing (undefined), null, a bool, a float64, a string, an *object, or (of code alone) a hole.
type value any

type (
	null struct{}
	hole struct{}
)

type object struct {
	kind   int
	under  *object
	keys   []string
	props  map[string]*property
	elems  []value
	call   func(this value, args []value) value
	makes  bool // what new takes
	frames bool // its calls count
	resume func(how int, sent value) (value, bool)
	over   bool
	begun  bool
	runs   bool
}

type property struct {
	value    value
	get, set value
	accessor bool
	fixed    bool // it can neither be written nor deleted
	hidden   bool
}

// thrown is what a program throws.
type thrown struct{ value value }

// outOfFuel ends what takes too long, or needs too much.
type outOfFuel struct{}

type world struct {
	log      []string
	fuel     int
	depth    int
	builtins []value
	proto    map[string]*object
}

func newWorld(fuel int) *world {
	w := &world{fuel: fuel, depth: 1, proto: map[string]*object{}}
	w.build()
	return w
}

func (w *world) burn() {
	if w.fuel--; w.fuel < 0 {
		panic(outOfFuel{})
	}
}

func (w *world) object(under *object) *object {
	return &object{under: under, props: map[string]*property{}}
}

func (w *world) throw(kind, message string) {
	panic(thrown{w.newError(kind, message)})
}

func (w *world) newError(kind string, message value) *object {
	o := w.object(w.proto[kind])
	o.kind = api.KindError
	if message != nil {
		o.define("message", &property{value: w.shown(message), hidden: true})
	}
	return o
}

func (w *world) array(elems ...value) *object {
	o := w.object(w.proto["Array"])
	o.kind, o.elems = api.KindArray, elems
	return o
}

func (w *world) told(v value, done bool) *object {
	o := w.object(w.proto["Object"])
	o.define("value", &property{value: v})
	o.define("done", &property{value: done})
	return o
}

func index(key string, below int) (int, bool) {
	i, err := strconv.Atoi(key)
	return i, err == nil && i >= 0 && i < below && strconv.Itoa(i) == key
}

func (o *object) own(key string) *property {
	if o.kind == api.KindArray {
		if key == "length" {
			return &property{value: float64(len(o.elems))}
		}
		if i, ok := index(key, len(o.elems)); ok {
			return &property{value: o.elems[i]}
		}
	}
	return o.props[key]
}

func (o *object) define(key string, p *property) {
	if i, ok := index(key, len(o.elems)+1); ok && o.kind == api.KindArray {
		o.elems = append(o.elems[:i], append([]value{p.value}, o.elems[min(i+1, len(o.elems)):]...)...)
		return
	}
	if o.props[key] == nil {
		o.keys = append(o.keys, key)
	}
	o.props[key] = p
}

func (o *object) find(key string) *property {
	for ; o != nil; o = o.under {
		if p := o.own(key); p != nil {
			return p
		}
	}
	return nil
}

func (w *world) get(of value, key string) value {
	var from *object
	switch x := of.(type) {
	case *object:
		from = x
	case string:
		if key == "length" {
			return float64(len(x))
		}
		if i, ok := index(key, len(x)); ok {
			return x[i : i+1]
		}
		from = w.proto["String"]
	case float64:
		from = w.proto["Number"]
	case bool:
		from = w.proto["Boolean"]
	default:
		w.throw("TypeError", "read "+key)
	}
	p := from.find(key)
	switch {
	case p == nil:
		return nil
	case !p.accessor:
		return p.value
	case p.get == nil:
		return nil
	}
	return w.call(p.get, of)
}

func (w *world) set(of value, key string, v value) {
	o, ok := of.(*object)
	if !ok {
		w.throw("TypeError", "write "+key)
	}
	p := o.find(key)
	switch {
	case p != nil && p.accessor:
		if p.set == nil {
			w.throw("TypeError", "write "+key)
		}
		w.call(p.set, of, v)
	case p != nil && p.fixed:
		w.throw("TypeError", "write "+key)
	case p != nil && o.props[key] == p:
		p.value = v
	default:
		o.define(key, &property{value: v})
	}
}

func (w *world) define(of value, key string, v value, how string) {
	o := of.(*object)
	if how == "init" {
		o.define(key, &property{value: v})
		return
	}
	p := o.props[key]
	if p == nil || !p.accessor {
		p = &property{accessor: true}
	}
	if how == "get" {
		p.get = v
	} else {
		p.set = v
	}
	o.define(key, p)
}

func (w *world) remove(of value, key string) bool {
	o, ok := of.(*object)
	if !ok {
		w.throw("TypeError", "delete")
	}
	if p := o.own(key); p != nil && (p.fixed || o.kind == api.KindArray && key == "length") {
		w.throw("TypeError", "delete")
	}
	if i, ok := index(key, len(o.elems)); ok && o.kind == api.KindArray {
		o.elems[i] = nil
	}
	delete(o.props, key)
	o.keys = slices.DeleteFunc(o.keys, func(k string) bool { return k == key })
	return true
}

func (w *world) in(key string, of value) bool {
	o, ok := of.(*object)
	if !ok {
		w.throw("TypeError", "in")
	}
	return o.find(key) != nil
}

func (w *world) instance(v, of value) bool {
	f, ok := of.(*object)
	if !ok || f.call == nil {
		w.throw("TypeError", "instanceof")
	}
	p := f.find("prototype")
	if p == nil || p.accessor {
		w.throw("TypeError", "instanceof")
	}
	proto, ok := p.value.(*object)
	if !ok {
		w.throw("TypeError", "instanceof")
	}
	o, ok := v.(*object)
	if !ok {
		return false
	}
	for o = o.under; o != nil; o = o.under {
		if o == proto {
			return true
		}
	}
	return false
}

// function is one of the program's; generators make what start makes of a call.
func (w *world) function(generator bool, call func(this value, args []value) value, start func(this value, args []value) func(int, value) (value, bool)) *object {
	o := w.object(w.proto["Function"])
	o.kind, o.frames = api.KindFunction, true
	if generator {
		o.call = func(this value, args []value) value {
			g := w.object(w.proto["Generator"])
			g.kind, g.resume = api.KindGenerator, start(this, args)
			return g
		}
		return o
	}
	o.call, o.makes = call, true
	proto := w.object(w.proto["Object"])
	proto.define("constructor", &property{value: o, hidden: true})
	o.define("prototype", &property{value: proto, hidden: true})
	return o
}

func (w *world) call(f, this value, args ...value) value {
	w.burn()
	o, ok := f.(*object)
	if !ok || o.call == nil {
		w.throw("TypeError", "call")
	}
	if !o.frames {
		return o.call(this, args)
	}
	defer w.enter()()
	return o.call(this, args)
}

// enter counts a call, till what it tells is called.
func (w *world) enter() func() {
	if w.depth >= api.MaxFrames {
		w.throw("RangeError", "calls")
	}
	w.depth++
	return func() { w.depth-- }
}

func (w *world) construct(f value, args ...value) value {
	o, ok := f.(*object)
	if ok && o.kind == api.KindNative && o.makes {
		return w.call(f, nil, args...)
	}
	if !ok || !o.makes {
		w.throw("TypeError", "new")
	}
	made := w.object(w.proto["Object"])
	if p := o.find("prototype"); p != nil && !p.accessor {
		if under, ok := p.value.(*object); ok {
			made.under = under
		}
	}
	if told, ok := w.call(f, made, args...).(*object); ok {
		return told
	}
	return made
}

// goOn lets a generator go on.
func (w *world) goOn(this value, how int, sent value) value {
	g, ok := this.(*object)
	if !ok || g.resume == nil {
		w.throw("TypeError", "generator")
	}
	if g.runs {
		w.throw("TypeError", "generator runs")
	}
	if g.over || !g.begun && how > 0 {
		g.over = true
		switch how {
		case 0:
			return w.told(nil, true)
		case 1:
			panic(thrown{sent})
		}
		return w.told(sent, true)
	}
	defer w.enter()()
	g.begun, g.runs = true, true
	over := true
	defer func() { g.runs, g.over = false, over }()
	v, done := g.resume(how, sent)
	over = done
	return w.told(v, done)
}

func (w *world) prim(v value, text bool) value {
	o, ok := v.(*object)
	if !ok {
		return v
	}
	ways := []string{"valueOf", "toString"}
	if text {
		slices.Reverse(ways)
	}
	for _, key := range ways {
		if f, ok := w.get(o, key).(*object); ok && f.call != nil {
			r := w.call(w.get(o, key), o)
			if _, ok := r.(*object); !ok {
				return r
			}
		}
	}
	w.throw("TypeError", "no primitive")
	return nil
}

// primIf is a primitive, if the other one is one, and neither null nor undefined.
func (w *world) primIf(v, other value) value {
	switch other.(type) {
	case nil, null, *object:
		return v
	}
	return w.prim(v, false)
}

func number(v value) float64 {
	switch x := v.(type) {
	case null:
		return 0
	case bool:
		if x {
			return 1
		}
		return 0
	case float64:
		return x
	case string:
		return math.Float64frombits(numtext.Read(x))
	}
	return math.NaN()
}

func text(v value) string {
	switch x := v.(type) {
	case nil:
		return "undefined"
	case null:
		return "null"
	case bool:
		return strconv.FormatBool(x)
	case float64:
		return numtext.Print(math.Float64bits(x))
	case string:
		return x
	}
	panic("text of no primitive")
}

func truthy(v value) bool {
	switch x := v.(type) {
	case nil, null:
		return false
	case bool:
		return x
	case float64:
		return x == x && x != 0
	case string:
		return x != ""
	}
	return true
}

func typeOf(v value) string {
	switch x := v.(type) {
	case nil:
		return "undefined"
	case bool:
		return "boolean"
	case float64:
		return "number"
	case string:
		return "string"
	case *object:
		if x.call != nil {
			return "function"
		}
	}
	return "object"
}

func toInt32(f float64) int32 {
	if math.IsNaN(f) || math.IsInf(f, 0) {
		return 0
	}
	return int32(uint32(int64(math.Mod(math.Trunc(f), 1<<32))))
}

// operate does what a sign says with two primitives (of === and !== with any values).
func operate(sign string, a, b value) value {
	_, isText := a.(string)
	_, isText2 := b.(string)
	switch sign {
	case "===":
		return a == b
	case "!==":
		return a != b
	case "==":
		return equal(a, b)
	case "!=":
		return !equal(a, b)
	case "+":
		if isText || isText2 {
			if len(text(a))+len(text(b)) > api.MaxText {
				panic(outOfFuel{})
			}
			return text(a) + text(b)
		}
	case "<", "<=", ">", ">=":
		if isText && isText2 {
			c := float64(strings.Compare(a.(string), b.(string)))
			return reckon(sign, c, 0)
		}
	}
	return reckon(sign, number(a), number(b))
}

func equal(a, b value) bool {
	lacks := func(v value) bool { return v == nil || v == null{} }
	_, isObject := a.(*object)
	_, isObject2 := b.(*object)
	_, isText := a.(string)
	_, isText2 := b.(string)
	switch {
	case lacks(a) || lacks(b):
		return lacks(a) && lacks(b)
	case isObject || isObject2 || isText && isText2:
		return a == b
	}
	return number(a) == number(b)
}

func reckon(sign string, a, b float64) value {
	x, y := toInt32(a), toInt32(b)
	switch sign {
	case "+":
		return a + b
	case "-":
		return a - b
	case "*":
		return a * b
	case "/":
		return a / b
	case "%":
		return math.Mod(a, b)
	case "<<":
		return float64(x << (uint32(y) & 31))
	case ">>":
		return float64(x >> (uint32(y) & 31))
	case ">>>":
		return float64(uint32(x) >> (uint32(y) & 31))
	case "&":
		return float64(x & y)
	case "|":
		return float64(x | y)
	case "^":
		return float64(x ^ y)
	case "<":
		return a < b
	case "<=":
		return a <= b
	case ">":
		return a > b
	case ">=":
		return a >= b
	}
	panic("no sign: " + sign)
}

func (w *world) shown(v value) string {
	o, ok := v.(*object)
	if !ok {
		return text(v)
	}
	if o.kind != api.KindError {
		if o.call != nil {
			return "[function]"
		}
		return "[object]"
	}
	part := func(key string) string {
		p := o.find(key)
		if p == nil || p.accessor {
			return ""
		}
		if _, ok := p.value.(*object); ok {
			return ""
		}
		return text(p.value)
	}
	return part("name") + ": " + part("message")
}
