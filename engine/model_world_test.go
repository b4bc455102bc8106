package engine_test

import (
	"iter"
	"slices"
	"strings"

	"brazier/api"
)

// raised is thrown by a program; returned is a return that comes out of a yield; over ends the model itself: "memory", "steps", or "unneeded" (of a generator that nobody asks any more).
type raised struct{ value value }

type returned struct{ value value }

type over string

// world is what the model has for a program.
type world struct {
	log      []string
	steps    int
	most     int // as many steps as may be done
	depth    int // of calls
	builtins map[string]value
	protos   map[string]*thing
	prim     value
	stops    []func()
}

func (w *world) step() {
	if w.steps++; w.steps > w.most {
		panic(over("steps"))
	}
}

// said is a text for which there must be room.
func (w *world) said(s string) string {
	if len(s) > api.MaxText {
		panic(over("memory"))
	}
	return s
}

func (w *world) make(kind int, proto *thing) *thing {
	return &thing{kind: kind, proto: proto, slots: map[string]slot{}}
}

func (w *world) object() *thing { return w.make(api.KindPlain, w.protos["Object"]) }

func (w *world) array() *thing { return w.make(api.KindArray, w.protos["Array"]) }

func (w *world) error(kind string, message value) *thing {
	o := w.make(api.KindError, w.protos[kind])
	if message != nil {
		o.lay("message", data(w.said(shown(message)), true, false, true))
	}
	return o
}

func (w *world) raise(kind, message string) {
	panic(raised{w.error(kind, w.said(message))})
}

func (w *world) typeError(is bool, message string) {
	if is {
		w.raise("TypeError", message)
	}
}

// shown is a value in a line that is printed.
func shown(v value) string {
	o, ok := v.(*thing)
	switch {
	case !ok:
		return toText(v)
	case o.kind == api.KindError:
		return part(o, "name") + ": " + part(o, "message")
	case o.does != nil:
		return "[function]"
	}
	return "[object]"
}

func part(o *thing, key string) string {
	s, at := o.find(key)
	if at == nil || s.isAccessor || !isPrimitive(s.value) {
		return ""
	}
	return toText(s.value)
}

func (w *world) print(args []value) {
	if len(w.log) == api.MaxLog {
		panic(over("memory"))
	}
	var l []string
	for _, v := range args {
		l = append(l, shown(v))
	}
	w.log = append(w.log, strings.Join(l, " "))
}

func callable(v value) bool {
	o, ok := v.(*thing)
	return ok && o.does != nil
}

func (w *world) call(f, this value, args ...value) value {
	w.step()
	w.typeError(!callable(f), "call")
	return f.(*thing).does(this, args)
}

// within does what stands in one more call.
func (w *world) within(do func() value) value {
	if w.depth == api.MaxFrames {
		w.raise("RangeError", "calls")
	}
	w.depth++
	defer func() { w.depth-- }()
	return do()
}

// ownProto is a function's prototype, if it is data and an object.
func ownProto(f *thing) *thing {
	s, _ := f.find("prototype")
	p, _ := s.value.(*thing) // an accessor's is nothing
	return p
}

func (w *world) construct(f value, args []value) value {
	w.step()
	o, _ := f.(*thing)
	w.typeError(!callable(f) || o.star || o.native && !o.makes, "new")
	if o.native {
		return o.does(nil, args)
	}
	made := w.object()
	if p := ownProto(o); p != nil {
		made.proto = p
	}
	if answer := o.does(made, args); !isPrimitive(answer) {
		return answer
	}
	return made
}

func (w *world) read(of value, key string) value {
	w.step()
	if s, ok := of.(string); ok {
		if key == "length" {
			return float64(len(s))
		}
		if n, ok := element(key); ok && n < len(s) {
			return s[n : n+1]
		}
	}
	var from *thing
	switch x := of.(type) {
	case string:
		from = w.protos["String"]
	case float64:
		from = w.protos["Number"]
	case bool:
		from = w.protos["Boolean"]
	case *thing:
		from = x
	}
	w.typeError(from == nil, "read "+key)
	s, at := from.find(key)
	if at == nil || !s.isAccessor {
		return s.value
	}
	if s.get == nil {
		return nil
	}
	return w.call(s.get, of)
}

func (w *world) write(of value, key string, v value) {
	w.step()
	o, ok := of.(*thing)
	w.typeError(!ok, "write "+key)
	setter, may := o.assign(key, v)
	w.typeError(!may, "write "+key)
	if setter != nil {
		w.call(setter, of, v)
	}
}

func (w *world) remove(of value, key string) {
	w.step()
	o, ok := of.(*thing)
	w.typeError(!ok || !o.drop(key), "delete")
}

func (w *world) has(key string, of value) bool {
	w.step()
	o, ok := of.(*thing)
	w.typeError(!ok, "in")
	_, at := o.find(key)
	return at != nil
}

func (w *world) isOf(v, f value) bool {
	w.step()
	w.typeError(!callable(f) || ownProto(f.(*thing)) == nil, "instanceof")
	o, ok := v.(*thing)
	return ok && o.proto.under(ownProto(f.(*thing)))
}

// primitive asks the prelude, as OpPrim does.
func (w *world) primitive(v value, text bool) value {
	w.step()
	switch {
	case isPrimitive(v):
		return v
	case text:
		return w.call(w.prim, nil, v, "toString", "valueOf")
	}
	return w.call(w.prim, nil, v, "valueOf", "toString")
}

func (w *world) number(v value) float64 { return toNumber(w.primitive(v, false)) }

func (w *world) push(a *thing, v value) {
	if len(a.elems) == api.MaxElems {
		w.raise("RangeError", "elements")
	}
	a.elems = append(a.elems, v)
}

// result is what who asks a generator is told.
func (w *world) result(v value, done bool) *thing {
	o := w.object()
	o.lay("value", data(v, true, true, true))
	o.lay("done", data(done, true, true, true))
	return o
}

// runner is the call of a generator.
type runner struct {
	begun, runs, ended bool
	how                string
	sent, answer       value
	next               func() (value, bool)
}

// generator is a new one; do is its call, which is given what does a yield.
func (w *world) generator(do func(yield func(value) value) value) *thing {
	g := w.make(api.KindGenerator, w.protos["generators"])
	r := &runner{}
	g.runner = r
	next, stop := iter.Pull(func(give func(value) bool) {
		defer func() {
			if x := recover(); x != nil && x != over("unneeded") {
				panic(x)
			}
		}()
		r.answer = do(func(v value) value {
			if !give(v) {
				panic(over("unneeded"))
			}
			switch r.how {
			case "throw":
				panic(raised{r.sent})
			case "return":
				panic(returned{r.sent})
			}
			return r.sent
		})
	})
	r.next = next
	w.stops = append(w.stops, stop)
	return g
}

// goOn is the generators' next, throw and return.
func (w *world) goOn(how string, this, sent value) value {
	g, ok := this.(*thing)
	w.typeError(!ok || g.kind != api.KindGenerator, "generator")
	r := g.runner
	w.typeError(r.runs, "generator runs")
	if r.ended || !r.begun && how != "next" {
		r.ended = true
		switch how {
		case "throw":
			panic(raised{sent})
		case "return":
			return w.result(sent, true)
		}
		return w.result(nil, true)
	}
	return w.within(func() value {
		r.begun, r.runs, r.how, r.sent = true, true, how, sent
		r.ended = true // unless it comes to a yield
		defer func() { r.runs = false }()
		v, yields := r.next()
		r.ended = !yields
		if !yields {
			v = r.answer
		}
		return w.result(v, r.ended)
	})
}

// ends does a program, and tells how it ends: by api's number, and what was thrown, shown; -1, if it was stopped.
func (w *world) ends(do func()) (end int, left string) {
	defer func() {
		for _, stop := range w.stops {
			stop()
		}
		switch x := recover().(type) {
		case nil:
		case raised:
			end, left = api.EndThrown, shown(x.value)
		case over:
			end = map[over]int{"memory": api.EndMemory, "steps": -1}[x]
		default:
			panic(x)
		}
	}()
	do()
	return api.EndDone, ""
}

func at(args []value, n int) value {
	if n < len(args) {
		return args[n]
	}
	return nil
}

func (w *world) list(l []string) *thing {
	a := w.array()
	for _, s := range l[:min(len(l), api.MaxElems)] {
		a.elems = append(a.elems, w.said(s))
	}
	return a
}

func holesAway(l []value) []value {
	l = slices.Clone(l)
	for i, v := range l {
		if v == (hole{}) {
			l[i] = nil
		}
	}
	return l
}
