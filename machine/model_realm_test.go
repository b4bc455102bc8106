package machine_test

import (
	"maps"
	"math"
	"slices"
	"strings"

	"brazier/api"
	"brazier/prelude"
	"brazier/scope"
)

type native = func(this value, args []value) value

func at(args []value, i int) value {
	if i < len(args) {
		return args[i]
	}
	return nil
}

func (w *model) newNative(do native) *object {
	o := w.object(api.KindNative, w.protos["Function"])
	o.native = do
	return o
}

// build makes what is there ahead of a program; walk goes through the prelude's text.
func (w *model) build(prelude func()) {
	w.protos = map[string]*object{}
	w.protos["Object"] = w.object(api.KindPlain, nil)
	for _, name := range []string{"Function", "Array", "String", "Number", "Boolean", "Error", "Generator"} {
		w.protos[name] = w.plain()
	}
	for _, name := range []string{"TypeError", "RangeError", "ReferenceError"} {
		w.protos[name] = w.object(api.KindPlain, w.protos["Error"])
	}
	w.builtins = make([]value, api.Builtins)
	for i, name := range scope.Builtins() {
		w.builtins[i] = w.builtin(name)
	}
	w.lay(w.at("Object"), w.ofObject())
	w.lay(w.protos["Object"], w.ofObjects())
	w.lay(w.protos["Function"], w.ofFunctions())
	w.lay(w.protos["Array"], w.ofArrays())
	w.lay(w.at("Array"), map[string]native{"isArray": func(this value, args []value) value {
		o, ok := at(args, 0).(*object)
		return ok && o.kind == api.KindArray
	}})
	w.lay(w.protos["String"], w.ofTexts())
	for _, name := range []string{"String", "Number", "Boolean"} {
		w.lay(w.protos[name], map[string]native{
			"toString": func(this value, args []value) value { return w.text(shown(this)) },
			"valueOf":  func(this value, args []value) value { return this },
		})
	}
	w.lay(w.protos["Generator"], w.ofGenerators())
	prelude()
	w.takeOver()
}

func (w *model) at(name string) *object {
	n, _ := scope.Builtin(name)
	o, _ := w.builtins[n].(*object)
	return o
}

func (w *model) lay(o *object, l map[string]native) {
	for _, key := range slices.Sorted(maps.Keys(l)) {
		o.hide(key, w.newNative(l[key]))
	}
}

// pair brings a builtin and its prototype together.
func (w *model) pair(name string, f *object) *object {
	f.lay("prototype", property{value: w.protos[name]})
	w.protos[name].hide("constructor", f)
	return f
}

func (w *model) builtin(name string) value {
	switch name {
	case "NaN":
		return math.NaN()
	case "Infinity":
		return inf
	case "Math":
		o := w.plain()
		w.lay(o, ofMath())
		return o
	case "print":
		return w.newNative(func(this value, args []value) value {
			var l []string
			for _, a := range args {
				l = append(l, shown(a))
			}
			if len(w.log) == api.MaxLog {
				panic(stops("memory"))
			}
			w.log = append(w.log, strings.Join(l, " "))
			return nil
		})
	case "String", "Number": // the prelude's
		return nil
	}
	f := w.newNative(func(this value, args []value) value {
		x := at(args, 0)
		switch name {
		case "Object":
			if isThing(x) {
				return x
			}
			return w.plain()
		case "Function":
			w.fail("TypeError", "Function")
		case "Array":
			return w.array()
		case "Boolean":
			return truthy(x)
		}
		return w.newError(name, x)
	})
	if f.makes = name != "Function" && name != "Boolean"; strings.HasSuffix(name, "Error") {
		w.protos[name].hide("name", name)
		w.protos[name].hide("message", "")
	}
	return w.pair(name, f)
}

// takeOver brings what the prelude has laid at Object to where it belongs.
func (w *model) takeOver() {
	taken := func(key string) *object {
		p := w.at("Object").own(key)
		w.at("Object").remove(key)
		return p.value.(*object)
	}
	w.prims = taken("$$prim")
	w.builtins[api.BuiltinString] = w.pair("String", taken("$$string"))
	w.builtins[api.BuiltinNumber] = w.pair("Number", taken("$$number"))
	w.protos["Array"].hide("$$iterator", taken("$$values"))
	w.protos["String"].hide("$$iterator", taken("$$texts"))
	w.protos["Error"].hide("toString", taken("$$message"))
}

func preludeText() string { return prelude.Source() }

// given is a native of Object that must be given one.
func (w *model) given(do func(o *object, args []value) value) native {
	return func(this value, args []value) value {
		o, ok := at(args, 0).(*object)
		if !ok {
			w.fail("TypeError", "Object")
		}
		return do(o, args)
	}
}

// must throws, unless something was done.
func (w *model) must(done bool, message string) {
	if !done {
		w.fail("TypeError", message)
	}
}

func (w *model) ofObject() map[string]native {
	return map[string]native{
		"create": func(this value, args []value) value {
			under, ok := at(args, 0).(*object)
			w.must(ok || at(args, 0) == null{}, "create")
			return w.object(api.KindPlain, under)
		},
		"getPrototypeOf": w.given(func(o *object, args []value) value {
			if o.under == nil {
				return null{}
			}
			return o.under
		}),
		"setPrototypeOf": w.given(func(o *object, args []value) value {
			w.must(o.setUnder(at(args, 1)), "setPrototypeOf")
			return o
		}),
		"defineProperty": w.given(func(o *object, args []value) value {
			wished, ok := wishOf(at(args, 2))
			w.must(ok && o.define(written(at(args, 1)), wished), "defineProperty")
			return o
		}),
		"getOwnPropertyDescriptor": w.given(func(o *object, args []value) value {
			p := o.own(written(at(args, 1)))
			switch {
			case p == nil:
				return nil
			case p.accessor:
				return w.record("get", p.get, "set", p.set, "enumerable", p.e, "configurable", p.c)
			}
			return w.record("value", p.value, "writable", p.w, "enumerable", p.e, "configurable", p.c)
		}),
		"keys": w.given(func(o *object, args []value) value {
			a := w.array()
			for _, key := range o.enumerated() {
				if len(a.elems) < api.MaxElems {
					a.elems = append(a.elems, key)
				}
			}
			return a
		}),
		"preventExtensions": w.given(func(o *object, args []value) value {
			o.closed = true
			return o
		}),
		"isExtensible": w.given(func(o *object, args []value) value { return !o.closed }),
	}
}

func wishOf(v value) (wish, bool) {
	o, ok := v.(*object)
	if !ok {
		return nil, false
	}
	w := wish{}
	for _, key := range []string{"value", "writable", "enumerable", "configurable", "get", "set"} {
		p, _ := o.lookup(key)
		switch {
		case p == nil:
			continue
		case p.accessor, (key == "get" || key == "set") && p.value != nil && !isCallable(p.value):
			return nil, false
		}
		w[key] = p.value
	}
	return w, true
}

func (w *model) ofObjects() map[string]native {
	return map[string]native{
		"hasOwnProperty": func(this value, args []value) value {
			w.must(!lacks(this), "hasOwnProperty")
			o, ok := this.(*object)
			return ok && o.own(written(at(args, 0))) != nil
		},
		"toString": func(this value, args []value) value { return "[object Object]" },
		"valueOf":  func(this value, args []value) value { return this },
	}
}

func (w *model) ofFunctions() map[string]native {
	return map[string]native{
		"call": func(this value, args []value) value {
			return w.call(this, at(args, 0), args[min(1, len(args)):]...)
		},
		"apply": func(this value, args []value) value {
			var l []value
			if o, ok := at(args, 1).(*object); ok {
				for _, v := range o.elems {
					if v == (hole{}) {
						v = nil
					}
					l = append(l, v)
				}
			}
			return w.call(this, at(args, 0), l...)
		},
		"toString": func(this value, args []value) value { return "function" },
	}
}

func (w *model) ofArrays() map[string]native {
	open := func(this value) *object {
		o, ok := this.(*object)
		w.must(ok && o.kind == api.KindArray && !o.closed, "array")
		return o
	}
	return map[string]native{
		"push": func(this value, args []value) value {
			o := open(this)
			for _, v := range args {
				w.push(o, v)
			}
			return float64(len(o.elems))
		},
		"pop": func(this value, args []value) value {
			o := open(this)
			if len(o.elems) == 0 {
				return nil
			}
			v := o.elems[len(o.elems)-1]
			o.resize(len(o.elems) - 1)
			if v == (hole{}) {
				return nil
			}
			return v
		},
	}
}

func (w *model) push(o *object, v value) {
	if len(o.elems) == api.MaxElems {
		w.fail("RangeError", "elements")
	}
	o.elems = append(o.elems, v)
}

// whole is a number without its fraction; 0, if it is none.
func whole(f float64) float64 {
	if f != f {
		return 0
	}
	return math.Trunc(f)
}

func (w *model) ofTexts() map[string]native {
	of := func(do func(s string, args []value) value) native {
		return func(this value, args []value) value {
			s, ok := this.(string)
			w.must(ok, "text")
			return do(s, args)
		}
	}
	return map[string]native{
		"charCodeAt": of(func(s string, args []value) value {
			n := whole(number(at(args, 0)))
			if n < 0 || n >= float64(len(s)) {
				return math.NaN()
			}
			return float64(s[int(n)])
		}),
		"slice": of(func(s string, args []value) value {
			size := float64(len(s))
			cut := func(v value, lacking float64) int {
				if v == nil || isThing(v) {
					return int(lacking)
				}
				n := whole(number(v))
				if n < 0 {
					n += size
				}
				return int(max(0, min(n, size)))
			}
			from, to := cut(at(args, 0), 0), cut(at(args, 1), size)
			if from > to {
				return ""
			}
			return s[from:to]
		}),
		"indexOf": of(func(s string, args []value) value {
			return float64(strings.Index(s, written(at(args, 0))))
		}),
	}
}

func ofMath() map[string]native {
	one := func(do func(f float64) float64) native {
		return func(this value, args []value) value { return do(number(at(args, 0))) }
	}
	most := func(start float64, first func(a, b float64) float64) native {
		return func(this value, args []value) value {
			m := start
			for _, a := range args {
				if f := number(a); f != f || m != m {
					m = math.NaN()
				} else {
					m = first(m, f)
				}
			}
			return m
		}
	}
	return map[string]native{
		"floor": one(math.Floor),
		"trunc": one(math.Trunc),
		"abs":   one(math.Abs),
		"min":   most(inf, math.Min),
		"max":   most(-inf, math.Max),
		"imul": func(this value, args []value) value {
			return float64(toInt32(number(at(args, 0))) * toInt32(number(at(args, 1))))
		},
	}
}

func (w *model) ofGenerators() map[string]native {
	l := map[string]native{"$$iterator": func(this value, args []value) value { return this }}
	for how, key := range []string{"next", "throw", "return"} {
		l[key] = func(this value, args []value) value { return w.goOn(this, how, at(args, 0)) }
	}
	return l
}
