package engine_test

import (
	"math"
	"slices"
	"testing"

	"brazier/api"
	"brazier/engine"
	"brazier/fuse"
	"brazier/quick"
)

// mixed has groups of instructions, calls within calls, a getter, a generator, and something that is thrown through them.
const mixed = `let o = {n: 1, get twice() { return this.n * 2; }};
function* g(n) { try { while (n > 0) { yield n--; } } finally { print("g"); } }
function f(n) { if (n === 0) { throw o.twice; } return f(n - 1) + n; }
for (const x of g(2)) { o.n += x; }
try { f(2); } catch (e) { print(e, o.n); }
print({} + 1);`

var machines = []bool{true, false}

// P19.2: as many instructions are done as there is fuel, whatever is cut in two by that; or as many as there are.
func TestRunFuel(t *testing.T) {
	length := load(t, mixed).Run(plenty, false)
	met := map[string]int{}
	m := baseline(t, mixed)
	fuels := []int{length + 1, length + 2, plenty, math.MaxInt32}
	for n := range length + 1 {
		fuels = append(fuels, n)
	}
	slices.Sort(fuels)
	for _, fuel := range fuels {
		for m.Count() < fuel && m.Step() {
		}
		want := m.State()
		for _, learns := range machines {
			e := load(t, mixed)
			if n := e.Run(fuel, learns); n != min(fuel, length) || n != e.Machine().Count() {
				t.Fatal("Run of", fuel, "by", learns, "did", n, "and not", min(fuel, length), ": Count", e.Machine().Count())
			}
			if !slices.Equal(e.Machine().State(), want) {
				t.Fatal("the state behind", fuel, "by", learns, "is", e.Machine().State(), "and not", want)
			}
			if ended := e.Machine().End() != api.EndRunning; ended != (fuel >= length) {
				t.Fatal("behind", fuel, "of", length, ": End", e.Machine().End())
			}
			cut(met, e)
		}
	}
	for _, where := range []string{"group", "call", "generator", "program", "prelude", "end"} {
		if met[where] == 0 {
			t.Error("no fuel ends within a", where)
		}
	}
}

// cut counts where the fuel has ended.
func cut(met map[string]int, e *engine.Engine) {
	m := e.Machine()
	if m.End() != api.EndRunning {
		met["end"]++
		return
	}
	f := m.Program().Funcs[m.Func()]
	if _, within, _ := fuse.Where(fuse.Groups(f), m.Pc()); within > 0 {
		met["group"]++
	}
	switch start := load0().Machine().Func(); {
	case m.Func() == start:
		met["program"]++
	case m.Func() < start:
		met["prelude"]++
	case f.Generator:
		met["generator"]++
	default:
		met["call"]++
	}
}

// load0 is an engine of nothing: it stands in the program's own function.
func load0() *engine.Engine {
	e, _, _ := engine.Load("")
	return e
}

// P19.2: without fuel nothing is done: at the beginning, within the program, behind its end.
func TestRunNothing(t *testing.T) {
	p := both(t, mixed)
	for p.running() {
		for _, fuel := range []int{0, -1, math.MinInt32, math.MinInt} {
			for _, learns := range machines {
				if n := p.run(turn{fuel, learns, false}); n != 0 {
					p.fail("Run of", fuel, "did", n)
				}
			}
		}
		p.same()
		p.run(turn{29, true, false})
	}
	p.same()
}

// P19.2: behind the end there is nothing to do, and Flush changes nothing.
func TestRunBehind(t *testing.T) {
	for _, k := range []program{
		{text: "", end: api.EndDone}, {text: "print(1);", lines: "1", end: api.EndDone},
		{text: "throw 1;", end: api.EndThrown, left: "1"}, {text: `let s = "ab"; while (s) { s += s; }`, end: api.EndMemory},
	} {
		p := both(t, k.text).toEnd(1, turn{plenty, true, false})
		was := p.m.State()
		for _, learns := range machines {
			for _, fuel := range []int{1, 0, -1, plenty, math.MaxInt} {
				p.e.Flush()
				if n := p.e.Run(fuel, learns); n != 0 {
					p.fail("behind the end Run of", fuel, "did", n)
				}
			}
		}
		if !slices.Equal(p.e.Machine().State(), was) {
			p.fail("behind the end the state changes")
		}
		p.prints(parted(k.lines), k.end, k.left)
	}
}

// P19.2: the end is told by the very instruction that comes to it: one less does not, and one more is not there.
func TestRunLast(t *testing.T) {
	for _, s := range []string{"", "print(1);", "throw 1;", "function f() { throw f; } f();", `let s = "abc"; while (s) { s += s; }`, mixed} {
		length := load(t, s).Run(plenty, false)
		for _, ahead := range machines {
			for _, last := range machines {
				e := load(t, s)
				if n := e.Run(length-1, ahead); n != length-1 || e.Machine().End() != api.EndRunning {
					t.Error(s, "did", n, "of", length-1, ": End", e.Machine().End())
				}
				if n := e.Run(5, last); n != 1 || e.Machine().End() == api.EndRunning || e.Machine().Count() != length {
					t.Error(s, "did", n, "and not the last one: End", e.Machine().End(), "Count", e.Machine().Count())
				}
			}
		}
	}
}

// learnt is all that is known.
func learnt(e *engine.Engine) (l []string) {
	for fn, f := range e.Machine().Program().Funcs {
		for pc := range f.Code {
			l = append(l, known(e.Quick(), fn, pc))
		}
	}
	return l
}

// asks is a program that meets one shape at its one place, five times.
const asks = `let o = {a: 1}; let i = 0; while (i < 5) { i += o.a; }`

// most asks first, and does all else behind it.
const most = "{" + asks + "}" + mixed

// place is the one at which the program itself reads a property.
func place(t *testing.T, e *engine.Engine) (fn, pc int) {
	t.Helper()
	fn = load0().Machine().Func()
	for pc, i := range e.Machine().Program().Funcs[fn].Code {
		if i.Op == api.OpGetNamed {
			return fn, pc
		}
	}
	t.Fatal("nothing is read")
	return 0, 0
}

// P19.2: it is quick that learns, if it is told to, and the baseline machine that does not.
func TestRunLearns(t *testing.T) {
	e := load(t, asks)
	fn, pc := place(t, e)
	e.Run(plenty, true)
	if q := e.Quick(); q.Site(fn, pc).State != api.SiteOne || q.Looked(fn, pc) != 1 || q.Turned(fn, pc) != 1 {
		t.Error("learning, it knows", q.Site(fn, pc), q.Looked(fn, pc), q.Turned(fn, pc))
	}
	dull := load(t, asks)
	dull.Run(plenty, false)
	if !slices.Equal(learnt(dull), learnt(load(t, asks))) {
		t.Error("the baseline machine has learnt")
	}
	if !slices.Equal(dull.Machine().State(), e.Machine().State()) {
		t.Error("what was learnt is seen")
	}
}

// P19.2: what was learnt is forgotten, and can be learnt again; the machine stays as it is.
func TestFlush(t *testing.T) {
	e, none := load(t, most), learnt(load(t, most))
	fn, pc := place(t, e)
	for e.Quick().Looked(fn, pc) == 0 {
		if e.Run(1, true) == 0 {
			t.Fatal("nothing was looked for")
		}
	}
	was := e.Machine().State()
	for range 2 {
		e.Flush()
		if !slices.Equal(learnt(e), none) {
			t.Error("something is still known")
		}
		if !slices.Equal(e.Machine().State(), was) {
			t.Error("Flush changes the state")
		}
	}
	e.Run(plenty, true)
	if q := e.Quick(); q.Site(fn, pc).State != api.SiteOne || q.Looked(fn, pc) != 1 || q.Turned(fn, pc) != 1 {
		t.Error("behind it, it knows", q.Site(fn, pc), q.Looked(fn, pc), q.Turned(fn, pc))
	}
}

// P19.2: in slices as much is learnt as at once, if they end where groups do; Flush alone forgets.
func TestRunKeeps(t *testing.T) {
	once := load(t, asks)
	once.Run(plenty, true)
	e := load(t, asks)
	for e.Run(e.Quick().Step(plenty), true) > 0 {
	}
	if !slices.Equal(learnt(e), learnt(once)) {
		t.Error("what was learnt is lost between the slices")
	}
	fn, pc := place(t, once)
	byOne := load(t, asks)
	for byOne.Run(1, true) == 1 {
		byOne.Run(2, false)
	}
	if byOne.Quick().Looked(fn, pc) > 1 || byOne.Quick().Site(fn, pc).State == api.SiteMany {
		t.Error("it looks again for what it knows")
	}
}

// P19.2: its parts are those that run: what they do themselves, it goes on from.
func TestParts(t *testing.T) {
	p := both(t, mixed)
	m, q := p.e.Machine(), p.e.Quick()
	for n := 0; p.running(); n++ {
		if m != p.e.Machine() || q != p.e.Quick() {
			t.Fatal("other parts")
		}
		did := 0
		switch n % 4 {
		case 0:
			if m.Step() {
				did = 1
			}
		case 1:
			did = q.Step(3)
		case 2:
			did = quick.New(m).Step(2)
		default:
			did = p.e.Run(3, n%8 == 3)
		}
		for range did {
			p.m.Step()
		}
		p.same()
	}
	p.prints([]string{"g", "8 4", "[object Object]1"}, api.EndDone, "")
}

// R1: an engine that is none, or has no program, does nothing.
func TestNone(t *testing.T) {
	for _, e := range []*engine.Engine{nil, {}} {
		for _, learns := range machines {
			for _, fuel := range []int{1, 0, -1, math.MaxInt, math.MinInt} {
				if n := e.Run(fuel, learns); n != 0 {
					t.Error("Run did", n)
				}
			}
		}
		e.Flush()
		if e.Machine() != nil || e.Quick() != nil {
			t.Error("it has parts")
		}
	}
	refused, _, _ := engine.Load("print(1")
	refused.Flush()
	if refused != nil || refused.Run(9, true) != 0 || refused.Run(9, false) != 0 {
		t.Error("what was refused runs")
	}
}

// R6: the same calls tell the same.
func TestSameAgain(t *testing.T) {
	one, two := load(t, most), load(t, most)
	for n := range 60 {
		if one.Run(n, n%3 > 0) != two.Run(n, n%3 > 0) || !slices.Equal(learnt(one), learnt(two)) || !slices.Equal(one.Machine().State(), two.Machine().State()) {
			t.Fatal("unlike each other, behind", one.Machine().Count())
		}
	}
}

// R5: what the machine tells is the caller's own.
func TestOwn(t *testing.T) {
	e := load(t, most)
	e.Run(plenty, true)
	was, lines := e.Machine().State(), e.Machine().Log()
	for n := range lines {
		e.Machine().Log()[n] = "mine"
	}
	e.Machine().State()[0] = "mine"
	if !slices.Equal(e.Machine().State(), was) || !slices.Equal(e.Machine().Log(), lines) {
		t.Error("it was written into")
	}
}

// P19.3, P19.4: where there is no room for more objects, texts or lines, both come to their end at one instruction.
func TestRoom(t *testing.T) {
	for _, s := range []string{
		`try { while (true) { [1]; } } catch (e) { print(e); } finally { print("no"); }`,
		`let n = 0; try { while (true) { n++; "t" + n; } } catch (e) { print(e); }`,
		`let n = 0; try { while (true) { print(n++); } } finally { n = -1; }`,
	} {
		p := both(t, s)
		for p.running() {
			p.run(turn{50001, true, p.m.Count()%2 == 0})
			p.run(turn{777, false, false})
		}
		p.same()
		if p.m.End() != api.EndMemory {
			p.fail("End", p.m.End())
		}
	}
}
