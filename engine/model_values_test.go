package engine_test

import (
	"math"
	"math/big"
	"regexp"
	"strconv"
	"strings"
)

// value is one of the language, in the model: nil (undefined), null, a bool, a float64, a string, or a *thing.
type value any

// null is the value of that name; hole is what stands where an array has no element.
type null struct{}

type hole struct{}

func isPrimitive(v value) bool {
	_, ok := v.(*thing)
	return !ok
}

func lacking(v value) bool { return v == nil || v == null{} }

// toText is what OpText makes of a primitive; what is none stands for undefined.
func toText(v value) string {
	switch x := v.(type) {
	case null:
		return "null"
	case bool:
		return strconv.FormatBool(x)
	case string:
		return x
	case float64:
		return digits(x)
	}
	return "undefined"
}

// digits writes a number.
func digits(x float64) string {
	switch {
	case x != x:
		return "NaN"
	case x == 0:
		return "0"
	case x < 0:
		return "-" + digits(-x)
	case math.IsInf(x, 1):
		return "Infinity"
	}
	mantissa, power, _ := strings.Cut(strconv.FormatFloat(x, 'e', -1, 64), "e")
	s := strings.Replace(mantissa, ".", "", 1)
	exponent, _ := strconv.Atoi(power)
	k, n := len(s), exponent+1
	switch {
	case k <= n && n <= 21:
		return s + strings.Repeat("0", n-k)
	case 0 < n && n <= 21:
		return s[:n] + "." + s[n:]
	case -6 < n && n <= 0:
		return "0." + strings.Repeat("0", -n) + s
	}
	if k > 1 {
		s = s[:1] + "." + s[1:]
	}
	sign := "+"
	if n-1 < 0 {
		sign = ""
	}
	return s + "e" + sign + strconv.Itoa(n-1)
}

var decimal = regexp.MustCompile(`^[+-]?([0-9]+(\.[0-9]*)?|\.[0-9]+)([eE][+-]?[0-9]+)?$`)

func numberOf(bits uint64) value { return math.Float64frombits(bits) }

// toNumber is what OpNum makes of a primitive; of what is none: no number.
func toNumber(v value) float64 {
	switch x := v.(type) {
	case null:
		return 0
	case bool:
		if x {
			return 1
		}
		return 0
	case float64:
		return x
	case string:
		return readNumber(strings.Trim(x, "\t\n "))
	}
	return math.NaN()
}

func readNumber(s string) float64 {
	switch {
	case s == "":
		return 0
	case strings.HasPrefix(s, "0x"), strings.HasPrefix(s, "0X"):
		n, ok := new(big.Int).SetString(s[2:], 16)
		if !ok || strings.ContainsAny(s[2:], "+-_") {
			return math.NaN()
		}
		f, _ := new(big.Float).SetInt(n).Float64()
		return f
	case strings.TrimLeft(s, "+-") == "Infinity" && len(s) <= 9:
		if s[0] == '-' {
			return math.Inf(-1)
		}
		return math.Inf(1)
	case decimal.MatchString(s):
		f, _ := strconv.ParseFloat(s, 64)
		return f
	}
	return math.NaN()
}

func toUint32(x float64) uint32 {
	if x != x || math.IsInf(x, 0) {
		return 0
	}
	m := math.Mod(math.Trunc(x), 1<<32)
	if m < 0 {
		m += 1 << 32
	}
	return uint32(m)
}

func toInt32(x float64) int32 { return int32(toUint32(x)) }

func isTruthy(v value) bool {
	switch x := v.(type) {
	case nil, null:
		return false
	case bool:
		return x
	case float64:
		return x == x && x != 0
	case string:
		return x != ""
	}
	return true
}

// sameWord tells whether two values are one word: -0 is not 0, and what is no number is what is none.
func sameWord(a, b value) bool {
	x, ok := a.(float64)
	y, ok2 := b.(float64)
	if ok && ok2 {
		return x != x && y != y || x == y && math.Signbit(x) == math.Signbit(y)
	}
	return a == b
}

// isEqual is what OpEqual tells of two values.
func isEqual(a, b value) bool {
	_, text := a.(string)
	_, text2 := b.(string)
	switch {
	case lacking(a) || lacking(b):
		return lacking(a) && lacking(b)
	case !isPrimitive(a) || !isPrimitive(b), text && text2:
		return a == b
	}
	return toNumber(a) == toNumber(b)
}

// compare is what a sign tells of two primitives: of two texts, or of two numbers.
func compare(sign string, a, b value) bool {
	s, ok := a.(string)
	t, ok2 := b.(string)
	x, y := toNumber(a), toNumber(b)
	if ok && ok2 {
		x, y = float64(strings.Compare(s, t)), 0
	}
	switch sign {
	case "<":
		return x < y
	case "<=":
		return x <= y
	case ">":
		return x > y
	}
	return x >= y
}

// reckon is what a sign of arithmetic or of bits makes of two numbers.
func reckon(sign string, x, y float64) float64 {
	k := toUint32(y) & 31
	switch sign {
	case "+":
		return x + y
	case "-":
		return x - y
	case "*":
		return x * y
	case "/":
		return x / y
	case "%":
		return math.Mod(x, y)
	case "<<":
		return float64(toInt32(x) << k)
	case ">>":
		return float64(toInt32(x) >> k)
	case ">>>":
		return float64(toUint32(x) >> k)
	case "&":
		return float64(toInt32(x) & toInt32(y))
	case "|":
		return float64(toInt32(x) | toInt32(y))
	}
	return float64(toInt32(x) ^ toInt32(y))
}
