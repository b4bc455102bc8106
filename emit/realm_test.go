package emit_test

import (
	"math"
	"strings"

	"brazier/api"
	"brazier/scope"
)

// native is a function of the world's own, at an object.
func (w *world) native(at *object, key string, makes bool, call func(this value, args []value) value) *object {
	o := w.object(w.proto["Function"])
	o.kind, o.makes = api.KindNative, makes
	o.call = call
	if at != nil {
		at.define(key, &property{value: o, hidden: true})
	}
	return o
}

func arg(args []value, i int) value {
	if i < len(args) {
		return args[i]
	}
	return nil
}

// build makes what is there ahead of a program: what the tests need of it.
func (w *world) build() {
	for _, name := range []string{"Object", "Function", "Array", "String", "Number", "Boolean", "Math", "Error", "TypeError", "RangeError", "ReferenceError", "Generator"} {
		w.proto[name] = w.object(w.proto["Object"])
		if strings.HasSuffix(name, "eError") {
			w.proto[name].under = w.proto["Error"]
		}
	}
	for _, name := range scope.Builtins() {
		w.builtins = append(w.builtins, w.builtin(name))
	}
	w.objects()
	w.lists()
	for how, name := range []string{"next", "throw", "return"} {
		w.native(w.proto["Generator"], name, false, func(this value, args []value) value {
			return w.goOn(this, how, arg(args, 0))
		})
	}
	w.native(w.proto["Generator"], "$$iterator", false, func(this value, args []value) value { return this })
}

func (w *world) builtin(name string) value {
	switch name {
	case "NaN":
		return math.NaN()
	case "Infinity":
		return math.Inf(1)
	case "Math":
		o := w.object(w.proto["Object"])
		w.native(o, "floor", false, func(this value, args []value) value { return math.Floor(number(arg(args, 0))) })
		return o
	case "print":
		return w.native(nil, "", false, func(this value, args []value) value {
			var l []string
			for _, a := range args {
				l = append(l, w.shown(a))
			}
			w.log = append(w.log, strings.Join(l, " "))
			return nil
		})
	}
	o := w.native(nil, "", name == "Object" || name == "Array" || strings.HasSuffix(name, "Error"), func(this value, args []value) value {
		switch name {
		case "Object":
			if o, ok := arg(args, 0).(*object); ok {
				return o
			}
			return w.object(w.proto["Object"])
		case "Array":
			return w.array()
		case "String":
			return text(w.prim(arg(args, 0), true))
		case "Number":
			return number(w.prim(arg(args, 0), false))
		case "Boolean":
			return truthy(arg(args, 0))
		case "Function":
			w.throw("TypeError", "Function")
		}
		return w.newError(name, arg(args, 0))
	})
	p := w.proto[name]
	o.define("prototype", &property{value: p, fixed: true, hidden: true})
	p.define("constructor", &property{value: o, hidden: true})
	if strings.HasSuffix(name, "Error") {
		p.define("name", &property{value: name, hidden: true})
		p.define("message", &property{value: "", hidden: true})
	}
	return o
}

func (w *world) objects() {
	o := w.builtins[api.BuiltinObject].(*object)
	w.native(o, "create", false, func(this value, args []value) value {
		under, ok := arg(args, 0).(*object)
		if !ok && arg(args, 0) != (null{}) {
			w.throw("TypeError", "create")
		}
		return w.object(under)
	})
	w.native(o, "setPrototypeOf", false, func(this value, args []value) value {
		args[0].(*object).under, _ = args[1].(*object)
		return args[0]
	})
	w.native(o, "keys", false, func(this value, args []value) value {
		var l []value
		for _, key := range args[0].(*object).keys {
			if !args[0].(*object).props[key].hidden {
				l = append(l, key)
			}
		}
		return w.array(l...)
	})
	proto := w.proto["Object"]
	w.native(proto, "toString", false, func(this value, args []value) value { return "[object Object]" })
	w.native(proto, "valueOf", false, func(this value, args []value) value { return this })
	w.native(w.proto["Function"], "toString", false, func(this value, args []value) value { return "function" })
	w.native(w.proto["Function"], "call", false, func(this value, args []value) value {
		return w.call(this, arg(args, 0), args[min(1, len(args)):]...)
	})
	w.native(w.proto["Error"], "toString", false, func(this value, args []value) value {
		return text(w.prim(w.get(this, "name"), false)) + ": " + text(w.prim(w.get(this, "message"), false))
	})
}

func (w *world) lists() {
	a := w.proto["Array"]
	w.native(a, "push", false, func(this value, args []value) value {
		o := this.(*object)
		o.elems = append(o.elems, args...)
		return float64(len(o.elems))
	})
	for _, proto := range []*object{a, w.proto["String"]} {
		w.native(proto, "$$iterator", false, func(this value, args []value) value { return w.places(this) })
	}
	for _, name := range []string{"String", "Number", "Boolean"} {
		w.native(w.proto[name], "toString", false, func(this value, args []value) value { return w.shown(this) })
		w.native(w.proto[name], "valueOf", false, func(this value, args []value) value { return this })
	}
}

// places is a generator of what stands at 0, 1 and so on.
func (w *world) places(of value) value {
	g := w.object(w.proto["Generator"])
	i := 0
	g.kind = api.KindGenerator
	g.resume = func(how int, sent value) (value, bool) {
		switch {
		case how == 1:
			panic(thrown{sent})
		case how == 2:
			return sent, true
		case float64(i) >= number(w.get(of, "length")):
			return nil, true
		}
		i++
		return w.get(of, text(float64(i-1))), false
	}
	return g
}
