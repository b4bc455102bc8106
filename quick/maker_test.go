package quick_test

import (
	"fmt"
	"strings"
	"testing"

	"brazier/api"
)

// helpers are what each program by chance begins with: places that are come by again and again, with whatever there is.
const helpers = `function ra(o) { return o.a; } function rb(o) { return o.b; } function rl(o) { return o.length; }
function wa(o, x) { o.a = x; return x; } function wb(o, x) { o.b = x; return o.b; } function wl(o, x) { o.length = x; return x; }
function ub(o, x) { o.b += x; return o.a; }
function add(x, y) { return x + y; } function sub(x, y) { return x - y; } function mul(x, y) { return x * y; } function less(x, y) { return x < y; } function shr(x, y) { return x >>> y; } function rem(x, y) { return x % y; }
function call(f, x) { return f(x); } function method(o, x) { return o.m(x); }
function* gen(o, x) { while (true) { x = yield o.a; o.b = x; } }
function P(x) { this.a = x; } P.prototype.b = 7; P.prototype.m = function (x) { return this.b; };
function Q(x) { this.b = x; this.a = x; } Q.prototype = Object.create(P.prototype);
function show(x) { print(typeof x, x); return x; }
function deep(n, f, x) { return n > 0 ? deep(n - 1, f, x) : f(x); }
`

// maker writes programs by chance.
type maker struct{ chance }

var vars = []string{"c", "d", "e", "f", "g", "h"}

func (m *maker) program() string {
	var l []string
	for _, name := range vars {
		l = append(l, "let "+name+" = "+m.fresh()+";")
	}
	l = append(l, "let i = 0; while (i < "+m.of("3", "6", "9")+") {")
	for range 4 + m.below(14) {
		l = append(l, "try { "+m.often(m.stmt())+" } catch (q) { print(typeof q); }")
	}
	return helpers + strings.Join(append(l, "i++; }"), "\n")
}

// often is a statement that is done at some turns alone.
func (m *maker) often(s string) string {
	switch m.below(4) {
	case 0:
		return fmt.Sprintf("if (i %% %d === %d) { %s }", 2+m.below(4), m.below(2), s)
	case 1:
		return fmt.Sprintf("let k = 0; while (k < %d) { %s k++; }", 2+m.below(4), s)
	}
	return s
}

func (m *maker) stmt() string {
	x, y := m.of(vars...), m.value()
	switch m.below(20) {
	case 14, 15, 16:
		return "for (const o of [" + m.of("c, d, e, f, g, h", "c, e, g, e, c", "d, f, h, f", x+", new P(1), {a: 1, b: 2}, "+x) + "]) { try { show(" + m.of("ra", "ra", "rb", "rb", "wa", "wb", "ub", "rl") + "(o, " + y + ")); } catch (q) { } }"
	case 0:
		return x + " = " + m.fresh() + ";"
	case 1:
		return x + " = Object.create(" + m.of(vars...) + "); " + m.of("", "", x+".m = ra;", x+".a = i;")
	case 2:
		if m.below(2) == 0 {
			return x + ".c" + m.of("1", "2", "3") + " = 1;"
		}
		return "delete " + m.of(x, "P.prototype", "Q.prototype") + "." + m.of("a", "b", "m", "z") + ";"
	case 3:
		return "Object.defineProperty(" + m.of(x, x, "P.prototype") + ", \"" + m.of("a", "b", "length") + "\", " + m.wish() + ");"
	case 4:
		return "Object.setPrototypeOf(" + m.of(x, x, "Q.prototype") + ", " + m.of(m.of(vars...), m.of(vars...), "null", "P.prototype", "Q.prototype") + ");"
	case 5:
		return m.of(x, x, "P.prototype", "Q.prototype") + m.of(".a", ".b", ".m", "[\"k\" + i]", ".z", ".length") + " = " + y + ";"
	case 6:
		return "show(" + m.of("add", "sub", "mul", "less", "shr", "rem") + "(" + m.of(m.number(), y) + ", " + m.of(m.number(), m.value()) + "));"
	case 7:
		return "show(" + m.of("call("+m.of("ra", "rb", "print", "P", m.of(vars...))+", "+y+")", "method("+x+", "+y+")", "deep("+m.of("3", "3", "3", "3", "3", "3", m.of("195", "197", "198", "199"))+", ra, "+x+")") + ");"
	case 8:
		return "let t = gen(" + x + ", 1); show(t.next().value); show(t.next(" + y + ").value);" + m.of("", " "+x+" = t;", " show("+m.of(vars...)+".next(i).value);")
	case 9:
		return m.of("Object.preventExtensions("+x+");", "if (Array.isArray("+x+")) { "+x+".push("+y+"); }", x+".z = 1; delete "+x+".z;", "show("+x+".a + "+x+".b);", x+".a++;")
	}
	return "show(" + m.of("ra", "ra", "ra", "rb", "rb", "wa", "wb", "ub", "rl", "wl") + "(" + x + ", " + y + "));"
}

func (m *maker) number() string {
	return m.of("i", "1", "2", "-1", "3", "31", "2147483647", "-2147483648", "1073741824", "0.5", "-0", "NaN", "1e300")
}

func (m *maker) value() string {
	return m.of(m.number(), m.of(vars...), `"s"`, `"12"`, "null", "undefined", "true", "{}")
}

// fresh is a new object, or something that is none.
func (m *maker) fresh() string {
	var l []string
	for _, key := range []string{"a", "b", "m", "d", "a"} {
		if m.below(3) == 0 {
			l = append(l, m.of(key+": "+m.of("1", "2.5", `"t"`, "{a: 4}", "ra"), key+": "+m.number(), "get "+key+"() { return 6; }", "get "+key+"() { return this.d; }, set "+key+"(x) { this.d = x; }"))
		}
	}
	return m.of("{"+strings.Join(l, ", ")+"}", "{a: 1}", "{b: 1, a: 2}", "{a: 1, b: 2}", "new P(1)", "new P(\"p\")", "new Q(2)", "[1, 2]", "[]", "function (x) { return this; }", "{valueOf: function () { return 3; }, a: 1}", "Object.create(P.prototype)", "Object.preventExtensions({a: 1})", m.of("1", `"text"`, "null"))
}

func (m *maker) wish() string {
	return m.of("{value: i, writable: true, enumerable: true, configurable: true}", "{value: 1}", "{writable: false}", "{writable: true}", "{enumerable: false}", "{get: function () { return 8; }, configurable: true}", "{get: ra, set: wb, configurable: true}", "{get: undefined, set: undefined}", "{configurable: false}", "{}")
}

// P18.2 to P18.9 on programs by chance, whatever is forgotten in between.
func TestByChance(t *testing.T) {
	for part := range 8 {
		t.Run(fmt.Sprint(part), func(t *testing.T) {
			t.Parallel()
			c := chance(part)
			seen := map[int]int{}
			for range 40 {
				m := maker{c}
				s := m.program()
				c = m.chance
				byChance(t, &c, s, seen)
			}
			t.Log(seen)
			for state := api.SiteNew; state <= api.SiteMany; state++ {
				if seen[state] < 2 { // else the programs say too little
					t.Error("state", state, "was come to", seen[state], "times alone")
				}
			}
		})
	}
}

func byChance(t *testing.T, c *chance, s string, seen map[int]int) {
	t.Helper()
	b := load(t, s)
	flushes := []int{1 << 40, 1 << 40, 1 << 40, 1000, 100, 10}[c.below(6)]
	for n := 0; b.m.End() == api.EndRunning && b.m.Count() < 30000; n++ {
		b.step(c.below(5))
		if n%211 == 210 {
			b.same()
		}
		if n%601 == 600 {
			b.laws()
		}
		if c.below(flushes) == 0 {
			b.flush()
		}
	}
	b.all()
	for at := range b.s.known {
		if b.q.Looked(at.fn, at.pc) > 0 {
			seen[b.q.Site(at.fn, at.pc).State]++
		}
	}
}
