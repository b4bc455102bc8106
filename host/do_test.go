package host_test

import (
	"math"
	"slices"
	"strings"
	"testing"

	"brazier/api"
	"brazier/engine"
	"brazier/host"
)

// counts prints the numbers from 0 to 2.
const counts = "let i = 0; while (i < 3) { print(i); i++; }"

// lasting ends, but by more instructions than the tests have fuel for.
const lasting = "let n = 0; while (n < 2000000) { n += 1; }"

// length is how many instructions a program has.
func length(t *testing.T, text string) int {
	t.Helper()
	e, _, code := engine.Load(text)
	if code != api.OK {
		t.Fatalf("%.3000s\nLoad: %d", text, code)
	}
	return e.Run(all, false)
}

// P20.1, P20.2: the chapter's example.
func TestExample(t *testing.T) {
	n := length(t, "print(7);")
	tells(t, script(read(), load("print(7);"), run(99, false), read()),
		only(api.ErrHostNone), only(api.OK), did(n), api.Told{Count: n, End: api.EndDone, Log: []string{"7"}})
}

// P20.1: a kind that is none of the four is ErrArg, whether there is a program or not; and changes nothing.
func TestKinds(t *testing.T) {
	h := host.New()
	for _, ahead := range [][]api.Act{nil, {load(counts)}, {run(9, true)}, {load("x")}} {
		each(h, ahead)
		was := h.Do(read())
		for _, kind := range []int{0, -1, 5, 9, 256 + api.HostLoad, 1 << 32, math.MaxInt, math.MinInt} {
			does(t, h, api.Act{Kind: kind}, only(api.ErrArg))
			does(t, h, api.Act{Kind: kind, Text: counts, Fuel: 5, Quick: true}, only(api.ErrArg))
			does(t, h, api.Act{Kind: kind, Text: "(", Fuel: -5}, only(api.ErrArg))
			does(t, h, read(), was)
		}
	}
}

// P20.1: where there is no program, of all but HostLoad ErrHostNone: ahead of the first, and behind one that was refused.
func TestNoProgram(t *testing.T) {
	none := func(h *host.Host) {
		t.Helper()
		for range 2 {
			for _, a := range []api.Act{run(1, false), run(1, true), run(0, true), run(-1, false), run(math.MaxInt, true), flush(), read(), {Kind: api.HostRead, Text: counts, Fuel: 4}, {Kind: api.HostRun, Text: counts}} {
				does(t, h, a, only(api.ErrHostNone))
			}
		}
	}
	h := host.New()
	none(h)
	for _, text := range []string{"x", "print(1", "x;", "let a; let a;", "print = 1;", "\x00", strings.Repeat(" ", api.MaxSource+1)} {
		if told := h.Do(load(text)); told.Code == api.OK {
			t.Errorf("%.100q is taken", text)
		}
		none(h)
		does(t, h, load(counts), only(api.OK))
		h.Do(run(20, true))
		if told := h.Do(load(text)); told.Code == api.OK {
			t.Errorf("%.100q is taken", text)
		}
		none(h)
	}
	none(&host.Host{})
}

// P20.1: what HostLoad tells of texts that are refused: why, and where.
func TestRefused(t *testing.T) {
	zeros := strings.TrimSuffix(strings.Repeat("0,", 500), ",")
	for _, k := range []struct {
		text string
		at   int
		code api.Errno
	}{
		{strings.Repeat(" ", api.MaxSource+1), 0, api.ErrLexLong}, {"print(1);\x00", 9, api.ErrLexByte}, {"print(1); /* ", 10, api.ErrLexRemark},
		{"let " + strings.Repeat("a", 33) + ";", 4, api.ErrLexName}, {"print(1a);", 6, api.ErrLexNumber}, {"print('a\n');", 6, api.ErrLexString},
		{"print('" + strings.Repeat("a", 4097) + "');", 6, api.ErrLexText}, {"print(1)#;", 8, api.ErrLexSign},
		{"x", 1, api.ErrParseForm}, {"print(1", 7, api.ErrParseForm}, {"print(1) print(2);", 9, api.ErrParseForm}, {"yield;", 0, api.ErrParseForm},
		{strings.Repeat("{", 61), 60, api.ErrParseDeep}, {"if (1) let b;", 7, api.ErrParseHere}, {"let a; a + 1 = 2;", 7, api.ErrParseLeft}, {"f()++;", 0, api.ErrParseLeft}, {"let a; delete a;", 7, api.ErrParseDelete},
		{"x;", 0, api.ErrScopeName}, {"print(1, y);", 9, api.ErrScopeName}, {"{ let a; } a;", 11, api.ErrScopeName}, {"let a; let a;", 7, api.ErrScopeTwice}, {"function f(a, a) {}", 14, api.ErrScopeTwice},
		{strings.Repeat("(function () {});", 200), 17*199 + 1, api.ErrScopeMany}, {"const c = 1; c = 2;", 13, api.ErrScopeConst}, {"print = 1;", 0, api.ErrScopeConst}, {"for (const x of []) { --x; }", 24, api.ErrScopeConst},
		{"break;", 0, api.ErrScopeJump}, {"print(1); return;", 10, api.ErrScopeReturn}, {"print(1); print(" + zeros + ");", 0, api.ErrEmitMany},
	} {
		tells(t, script(load(k.text), read(), load(counts), load(k.text), run(5, true)), refused(k.at, k.code), only(api.ErrHostNone), only(api.OK), refused(k.at, k.code), only(api.ErrHostNone))
	}
}

// P20.1: a program that is loaded stands ahead of its first instruction, whatever stands in Fuel and Quick.
func TestLoad(t *testing.T) {
	for _, text := range []string{"", " ", ";", counts, lasting, "throw 1;", "let " + strings.Repeat("a", 32) + ";" + strings.Repeat(" ", api.MaxSource-37)} {
		tells(t, script(load(text), read()), only(api.OK), stands(0, api.EndRunning))
		tells(t, script(api.Act{Kind: api.HostLoad, Text: text, Fuel: 500, Quick: true}, read()), only(api.OK), stands(0, api.EndRunning))
	}
}

// P20.1: as many instructions are done as there is fuel, or as there are.
func TestRun(t *testing.T) {
	n := length(t, counts)
	for _, quick := range machines {
		for fuel := range n + 5 {
			h := host.New()
			does(t, h, load(counts), only(api.OK))
			does(t, h, run(fuel, quick), did(min(fuel, n)))
			told := h.Do(read())
			if told.Count != min(fuel, n) || (told.End == api.EndDone) != (fuel >= n) || told.Uncaught != "" || told.Code != api.OK || told.At != 0 {
				t.Fatal("behind", fuel, "of", n, "it stands", told)
			}
			does(t, h, run(all, !quick), did(n-min(fuel, n)))
			does(t, h, read(), api.Told{Count: n, End: api.EndDone, Log: []string{"0", "1", "2"}})
		}
	}
}

// P20.1: without fuel nothing is done: ahead of the program, within it, behind its end.
func TestRunNothing(t *testing.T) {
	h := host.New()
	does(t, h, load(counts), only(api.OK))
	for n := range 30 {
		was := h.Do(read())
		for _, fuel := range []int{0, -1, -api.MaxFuel, -api.MaxFuel - 1, math.MinInt32, math.MinInt} {
			for _, quick := range machines {
				does(t, h, run(fuel, quick), did(0))
			}
		}
		does(t, h, read(), was)
		h.Do(run(7, n%2 == 0))
	}
	if h.Do(read()).End != api.EndDone {
		t.Error("the end was not met")
	}
}

// P20.1: no more than MaxFuel are done at once, and so many are.
func TestRunMost(t *testing.T) {
	for _, quick := range machines {
		h := host.New()
		does(t, h, load(lasting), only(api.OK))
		count := 0
		for _, fuel := range []int{api.MaxFuel - 1, api.MaxFuel, api.MaxFuel + 1, math.MaxInt32, math.MaxInt} {
			does(t, h, run(fuel, quick), did(min(fuel, api.MaxFuel)))
			count += min(fuel, api.MaxFuel)
			does(t, h, read(), stands(count, api.EndRunning))
		}
	}
}

// P20.1: HostFlush tells nothing, and nothing of it is seen.
func TestFlush(t *testing.T) {
	h := host.New()
	does(t, h, load(counts), only(api.OK))
	for n := range 40 {
		was := h.Do(read())
		for range 2 {
			does(t, h, flush(), api.Told{})
			does(t, h, api.Act{Kind: api.HostFlush, Text: "(", Fuel: 9, Quick: true}, api.Told{})
			does(t, h, read(), was)
		}
		h.Do(run(3, n%3 > 0))
	}
}

// P20.1: behind the end nothing is done, and it is told as it was, again and again.
func TestBehindEnd(t *testing.T) {
	for _, k := range []struct {
		text, lines string
		end         int
		left        string
	}{
		{"", "", api.EndDone, ""}, {counts, "0|1|2", api.EndDone, ""}, {"print(1); throw new RangeError('q'); print(2);", "1", api.EndThrown, "RangeError: q"},
		{"throw '';", "", api.EndThrown, ""}, {"function f() { f(); } f();", "", api.EndThrown, "RangeError: calls"},
		{"let s = 'ab'; while (s) { s += s; print(s.length); }", "4|8|16|32|64|128|256|512|1024|2048|4096", api.EndMemory, ""},
	} {
		for _, quick := range machines {
			h := host.New()
			does(t, h, load(k.text), only(api.OK))
			n := length(t, k.text)
			does(t, h, run(all, quick), did(n))
			want := api.Told{Count: n, End: k.end, Log: parted(k.lines), Uncaught: k.left}
			for _, fuel := range []int{1, 0, -1, all, math.MaxInt} {
				does(t, h, read(), want)
				does(t, h, run(fuel, quick), did(0))
				does(t, h, read(), want)
				does(t, h, flush(), api.Told{})
				does(t, h, run(fuel, !quick), did(0))
			}
			does(t, h, read(), want)
			does(t, h, load(k.text), only(api.OK))
			does(t, h, read(), stands(0, api.EndRunning))
		}
	}
}

// P20.1: a program takes the place of the one ahead, wherever that stands; it knows nothing of it.
func TestInPlace(t *testing.T) {
	const one = "let n = 0; Object.prototype.x = 5; while (n < 9) { n++; print('one', {}.x); }"
	const two = "print({}.x); let n = 0; while (n < 2) { print(n++); }"
	for fuel := range length(t, one) + 2 {
		h := host.New()
		does(t, h, load(one), only(api.OK))
		h.Do(run(fuel, fuel%2 == 0))
		does(t, h, load(two), only(api.OK))
		does(t, h, read(), stands(0, api.EndRunning))
		does(t, h, run(all, fuel%3 > 0), did(length(t, two)))
		does(t, h, read(), api.Told{Count: length(t, two), End: api.EndDone, Log: []string{"undefined", "0", "1"}})
	}
}

// P20.1: a text that is loaded twice begins anew.
func TestLoadTwice(t *testing.T) {
	const text = "let n = 0; Object.prototype.x = (Object.prototype.x || 0) + 1; while (n < 5) { n += {}.x; print(n); }"
	n := length(t, text)
	full := api.Told{Count: n, End: api.EndDone, Log: []string{"1", "2", "3", "4", "5"}}
	for _, quick := range machines {
		tells(t, script(load(text), run(all, quick), read(), load(text), read(), run(all, quick), read(), load(text), load(text), run(n-1, !quick), run(9, quick), read()),
			only(api.OK), did(n), full, only(api.OK), stands(0, api.EndRunning), did(n), full, only(api.OK), only(api.OK), did(n-1), did(1), full)
	}
}

// P20.1: hosts know nothing of one another.
func TestTwoHosts(t *testing.T) {
	one, two := host.New(), host.New()
	does(t, one, load(counts), only(api.OK))
	does(t, two, read(), only(api.ErrHostNone))
	does(t, two, load("print('two');"), only(api.OK))
	does(t, one, run(all, true), did(length(t, counts)))
	does(t, two, read(), stands(0, api.EndRunning))
	does(t, two, load("("), refused(1, api.ErrParseForm))
	if told := one.Do(read()); !slices.Equal(told.Log, []string{"0", "1", "2"}) {
		t.Error("it stands", told)
	}
}

// R1: a host that is none keeps no program; what is amiss with a text it tells.
func TestNone(t *testing.T) {
	var h *host.Host
	for range 2 {
		for _, a := range []api.Act{run(5, true), run(-1, false), flush(), read()} {
			does(t, h, a, only(api.ErrHostNone))
		}
		does(t, h, api.Act{Kind: 9}, only(api.ErrArg))
		does(t, h, load("print(1"), refused(7, api.ErrParseForm))
		does(t, h, load("x;"), refused(0, api.ErrScopeName))
		does(t, h, load(counts), only(api.OK))
	}
}
