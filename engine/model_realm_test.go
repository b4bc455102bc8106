package engine_test

import (
	"math"
	"strings"

	"brazier/api"
	"brazier/parse"
	"brazier/prelude"
)

// does is what a native does.
type does = func(this value, args []value) value

func (w *world) native(f does) *thing {
	o := w.make(api.KindNative, w.protos["Function"])
	o.does, o.native = f, true
	return o
}

func (w *world) layAll(o *thing, natives map[string]does) {
	for key, f := range natives {
		o.lay(key, data(w.native(f), true, false, true))
	}
}

// pair brings a builtin and its prototype together.
func (w *world) pair(name string, f *thing) *thing {
	w.builtins[name] = f
	f.lay("prototype", data(w.protos[name], false, false, false))
	w.protos[name].lay("constructor", data(f, true, false, true))
	return f
}

// newWorld has all that is there ahead of a program.
func newWorld() *world {
	w := &world{most: 1 << 30, depth: 1, builtins: map[string]value{}, protos: map[string]*thing{}}
	w.protos["Object"] = w.make(api.KindPlain, nil)
	for _, name := range []string{"Function", "Array", "String", "Number", "Boolean", "Error", "generators"} {
		w.protos[name] = w.object()
	}
	w.errors()
	w.objects()
	w.functions()
	w.arrays()
	w.texts()
	w.maths()
	w.generators()
	w.builtins["NaN"], w.builtins["Infinity"] = math.NaN(), math.Inf(1)
	w.builtins["print"] = w.native(func(_ value, args []value) value {
		w.print(args)
		return nil
	})
	w.takeOver()
	return w
}

func (w *world) errors() {
	for _, name := range []string{"Error", "TypeError", "RangeError", "ReferenceError"} {
		if name != "Error" {
			w.protos[name] = w.make(api.KindPlain, w.protos["Error"])
		}
		f := w.pair(name, w.native(func(_ value, args []value) value { return w.error(name, at(args, 0)) }))
		f.makes = true
		w.protos[name].lay("name", data(name, true, false, true))
		w.protos[name].lay("message", data("", true, false, true))
	}
}

// takeOver runs the prelude, and lays its functions where they belong.
func (w *world) takeOver() {
	tree, _, _ := parse.Parse(prelude.Source())
	w.run(tree)
	object := w.builtins["Object"].(*thing)
	took := func(key string) *thing {
		s, _ := object.own(key)
		object.drop(key)
		return s.value.(*thing)
	}
	w.prim = took("$$prim")
	w.pair("String", took("$$string"))
	w.pair("Number", took("$$number"))
	for name, key := range map[string]string{"Array": "$$values", "String": "$$texts"} {
		w.protos[name].lay("$$iterator", data(took(key), true, false, true))
	}
	w.protos["Error"].lay("toString", data(took("$$message"), true, false, true))
}

// mustObject is the first argument of one of Object's natives.
func (w *world) mustObject(args []value) *thing {
	o, ok := at(args, 0).(*thing)
	w.typeError(!ok, "Object")
	return o
}

func (w *world) objects() {
	object := w.pair("Object", w.native(func(_ value, args []value) value {
		if x := at(args, 0); !isPrimitive(x) {
			return x
		}
		return w.object()
	}))
	object.makes = true
	w.layAll(object, map[string]does{
		"create": func(_ value, args []value) value {
			p, ok := at(args, 0).(*thing)
			w.typeError(!ok && at(args, 0) != null{}, "create")
			return w.make(api.KindPlain, p)
		},
		"getPrototypeOf": func(_ value, args []value) value {
			if p := w.mustObject(args).proto; p != nil {
				return p
			}
			return null{}
		},
		"setPrototypeOf": func(_ value, args []value) value {
			o := w.mustObject(args)
			w.typeError(!o.setProto(at(args, 1)), "setPrototypeOf")
			return o
		},
		"defineProperty": func(_ value, args []value) value {
			o := w.mustObject(args)
			wish := w.wish(at(args, 2))
			w.typeError(!o.define(toText(at(args, 1)), wish), "defineProperty")
			return o
		},
		"getOwnPropertyDescriptor": func(_ value, args []value) value {
			return w.described(w.mustObject(args), toText(at(args, 1)))
		},
		"keys": func(_ value, args []value) value { return w.list(w.mustObject(args).keys()) },
		"preventExtensions": func(_ value, args []value) value {
			o := w.mustObject(args)
			o.closed = true
			return o
		},
		"isExtensible": func(_ value, args []value) value { return !w.mustObject(args).closed },
	})
	w.layAll(w.protos["Object"], map[string]does{
		"hasOwnProperty": func(this value, args []value) value {
			w.typeError(lacking(this), "hasOwnProperty")
			o, ok := this.(*thing)
			if !ok {
				return false
			}
			_, has := o.own(toText(at(args, 0)))
			return has
		},
		"toString": func(value, []value) value { return "[object Object]" },
		"valueOf":  func(this value, _ []value) value { return this },
	})
}

// wish is what an object says that a property is to be.
func (w *world) wish(v value) wished {
	o, ok := v.(*thing)
	w.typeError(!ok, "defineProperty")
	wish := wished{}
	for _, key := range []string{"value", "writable", "enumerable", "configurable", "get", "set"} {
		s, at := o.find(key)
		if at == nil {
			continue
		}
		w.typeError(s.isAccessor || (key == "get" || key == "set") && s.value != nil && !callable(s.value), "defineProperty")
		wish[key] = s.value
	}
	return wish
}

func (w *world) described(of *thing, key string) value {
	s, has := of.own(key)
	if !has {
		return nil
	}
	o := w.object()
	lay := func(key string, v value) { o.lay(key, data(v, true, true, true)) }
	if s.isAccessor {
		lay("get", s.get)
		lay("set", s.set)
	} else {
		lay("value", s.value)
		lay("writable", s.w)
	}
	lay("enumerable", s.e)
	lay("configurable", s.c)
	return o
}

func (w *world) functions() {
	w.pair("Function", w.native(func(value, []value) value {
		w.raise("TypeError", "Function")
		return nil
	}))
	w.layAll(w.protos["Function"], map[string]does{
		"call": func(this value, args []value) value {
			return w.call(this, at(args, 0), args[min(1, len(args)):]...)
		},
		"apply": func(this value, args []value) value {
			var l []value
			if a, ok := at(args, 1).(*thing); ok {
				l = holesAway(a.elems)
			}
			return w.call(this, at(args, 0), l...)
		},
		"toString": func(value, []value) value { return "function" },
	})
	w.pair("Boolean", w.native(func(_ value, args []value) value { return isTruthy(at(args, 0)) }))
}

func (w *world) arrays() {
	array := w.pair("Array", w.native(func(value, []value) value { return w.array() }))
	array.makes = true
	w.layAll(array, map[string]does{"isArray": func(_ value, args []value) value {
		o, ok := at(args, 0).(*thing)
		return ok && o.isArray()
	}})
	must := func(this value) *thing {
		o, ok := this.(*thing)
		w.typeError(!ok || !o.isArray() || o.closed, "array")
		return o
	}
	w.layAll(w.protos["Array"], map[string]does{
		"push": func(this value, args []value) value {
			o := must(this)
			for _, v := range args {
				w.push(o, v)
			}
			return float64(len(o.elems))
		},
		"pop": func(this value, _ []value) value {
			o := must(this)
			last := len(o.elems) - 1
			if last < 0 {
				return nil
			}
			v := holesAway(o.elems)[last]
			o.elems = o.elems[:last]
			return v
		},
	})
}

// towards0 is an argument as a whole number.
func towards0(v value) float64 {
	if x := toNumber(v); x == x {
		return math.Trunc(x)
	}
	return 0
}

// bound is where a text of that length is cut.
func bound(v value, lacks, length int) int {
	if v == nil {
		return lacks
	}
	x := towards0(v)
	if x < 0 {
		x += float64(length)
	}
	return int(max(0, min(x, float64(length))))
}

func (w *world) texts() {
	must := func(this value) string {
		s, ok := this.(string)
		w.typeError(!ok, "text")
		return s
	}
	w.layAll(w.protos["String"], map[string]does{
		"charCodeAt": func(this value, args []value) value {
			s, n := must(this), towards0(at(args, 0))
			if n < 0 || n >= float64(len(s)) {
				return math.NaN()
			}
			return float64(s[int(n)])
		},
		"slice": func(this value, args []value) value {
			s := must(this)
			from, to := bound(at(args, 0), 0, len(s)), bound(at(args, 1), len(s), len(s))
			return s[min(from, to):to]
		},
		"indexOf": func(this value, args []value) value {
			return float64(strings.Index(must(this), toText(at(args, 0))))
		},
	})
	for _, name := range []string{"String", "Number", "Boolean"} {
		w.layAll(w.protos[name], map[string]does{
			"toString": func(this value, _ []value) value { return w.said(shown(this)) },
			"valueOf":  func(this value, _ []value) value { return this },
		})
	}
}

func (w *world) maths() {
	o := w.object()
	w.builtins["Math"] = o
	one := func(f func(float64) float64) does {
		return func(_ value, args []value) value { return f(toNumber(at(args, 0))) }
	}
	// Go's own min and max know of -0 and of no number what is asked here.
	most := func(first float64, f func(a, b float64) float64) does {
		return func(_ value, args []value) value {
			x := first
			for _, v := range args {
				x = f(x, toNumber(v))
			}
			return x
		}
	}
	w.layAll(o, map[string]does{
		"floor": one(math.Floor),
		"trunc": one(math.Trunc),
		"abs":   one(math.Abs),
		"min":   most(math.Inf(1), func(a, b float64) float64 { return min(a, b) }),
		"max":   most(math.Inf(-1), func(a, b float64) float64 { return max(a, b) }),
		"imul": func(_ value, args []value) value {
			return float64(toInt32(toNumber(at(args, 0))) * toInt32(toNumber(at(args, 1))))
		},
	})
}

func (w *world) generators() {
	natives := map[string]does{"$$iterator": func(this value, _ []value) value { return this }}
	for _, how := range []string{"next", "throw", "return"} {
		natives[how] = func(this value, args []value) value { return w.goOn(how, this, at(args, 0)) }
	}
	w.layAll(w.protos["generators"], natives)
}
