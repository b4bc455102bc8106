package machine_test

import (
	"math"
	"strconv"
	"strings"

	"brazier/api"
	"brazier/numtext"
)

// The model is a second reading of what a program means: it goes through the tree, without code, registers, words, shapes. These are its values.

// value is nothing (undefined), null, a bool, a float64, a string, an *object; an element may be a hole.
type value any

type (
	null struct{}
	hole struct{}
)

func isNumber(v value) bool { _, ok := v.(float64); return ok }

func isText(v value) bool { _, ok := v.(string); return ok }

func isThing(v value) bool { _, ok := v.(*object); return ok }

func isCallable(v value) bool {
	o, ok := v.(*object)
	return ok && (o.native != nil || o.body != nil)
}

// number is what a primitive is as one; an object stands for undefined.
func number(v value) float64 {
	switch x := v.(type) {
	case null:
		return 0
	case bool:
		if x {
			return 1
		}
		return 0
	case float64:
		return x
	case string:
		return math.Float64frombits(numtext.Read(x))
	}
	return math.NaN()
}

// written is what a primitive is as a text; an object stands for undefined.
func written(v value) string {
	switch x := v.(type) {
	case null:
		return "null"
	case bool:
		return strconv.FormatBool(x)
	case float64:
		return numtext.Print(math.Float64bits(x))
	case string:
		return x
	}
	return "undefined"
}

func truthy(v value) bool {
	switch x := v.(type) {
	case nil, null:
		return false
	case bool:
		return x
	case float64:
		return x == x && x != 0
	case string:
		return x != ""
	}
	return true
}

func typeOf(v value) string {
	switch v.(type) {
	case nil:
		return "undefined"
	case bool:
		return "boolean"
	case float64:
		return "number"
	case string:
		return "string"
	}
	if isCallable(v) {
		return "function"
	}
	return "object"
}

func toInt32(f float64) int32 {
	if math.IsNaN(f) || math.IsInf(f, 0) {
		return 0
	}
	return int32(uint32(int64(math.Mod(math.Trunc(f), 1<<32))))
}

// operate does what a sign of arithmetic, of bits or of order says with two primitives.
func (w *model) operate(sign string, a, b value) value {
	w.burn()
	if sign == "+" && (isText(a) || isText(b)) {
		return w.text(written(a) + written(b))
	}
	if isText(a) && isText(b) {
		c := strings.Compare(a.(string), b.(string))
		switch sign {
		case "<":
			return c < 0
		case "<=":
			return c <= 0
		case ">":
			return c > 0
		case ">=":
			return c >= 0
		}
	}
	return reckon(sign, number(a), number(b))
}

func reckon(sign string, a, b float64) value {
	x, y := toInt32(a), toInt32(b)
	switch sign {
	case "+":
		return a + b
	case "-":
		return a - b
	case "*":
		return a * b
	case "/":
		return a / b
	case "%":
		return math.Mod(a, b)
	case "<<":
		return float64(x << (uint32(y) & 31))
	case ">>":
		return float64(x >> (uint32(y) & 31))
	case ">>>":
		return float64(uint32(x) >> (uint32(y) & 31))
	case "&":
		return float64(x & y)
	case "|":
		return float64(x | y)
	case "^":
		return float64(x ^ y)
	case "<":
		return a < b
	case "<=":
		return a <= b
	case ">":
		return a > b
	case ">=":
		return a >= b
	}
	panic("no sign: " + sign)
}

func lacks(v value) bool { return v == nil || v == null{} }

func equal(a, b value) bool {
	switch {
	case lacks(a) || lacks(b):
		return lacks(a) && lacks(b)
	case isThing(a) || isThing(b) || isText(a) && isText(b):
		return a == b
	}
	return number(a) == number(b)
}

// identical tells whether two values are one word: 0 and -0 are not, NaN is itself.
func identical(a, b value) bool {
	if isNumber(a) && isNumber(b) {
		x, y := a.(float64), b.(float64)
		return x != x && y != y || math.Float64bits(x) == math.Float64bits(y)
	}
	return a == b
}

// shown is what a value is in a line that is printed.
func shown(v value) string {
	o, ok := v.(*object)
	switch {
	case !ok:
		return written(v)
	case o.kind == api.KindError:
		return o.part("name") + ": " + o.part("message")
	case isCallable(o):
		return "[function]"
	}
	return "[object]"
}

func (o *object) part(key string) string {
	p, _ := o.lookup(key)
	if p == nil || p.accessor || isThing(p.value) {
		return ""
	}
	return written(p.value)
}

func bits(n uint64) float64 { return math.Float64frombits(n) }
