package quick_test

import (
	"math"
	"slices"
	"testing"

	"brazier/api"
	"brazier/machine"
	"brazier/quick"
)

// nothing: at those places nothing is known.
func nothing(t *testing.T, q *quick.Quick, places ...spot) {
	t.Helper()
	for _, at := range places {
		s := q.Site(at.fn, at.pc)
		if s.State != api.SiteNew || len(s.Entries) != 0 || q.Arith(at.fn, at.pc) != api.ArithNew || q.Call(at.fn, at.pc) != api.CallNew || q.Looked(at.fn, at.pc) != 0 || q.Turned(at.fn, at.pc) != 0 {
			t.Errorf("at %v is known: %v, %d, %d, %d, %d", at, s, q.Arith(at.fn, at.pc), q.Call(at.fn, at.pc), q.Looked(at.fn, at.pc), q.Turned(at.fn, at.pc))
		}
	}
}

// nowhere are places that there are not.
var nowhere = []spot{{-1, 0}, {0, -1}, {7, -1}, {1 << 20, 0}, {7, 1 << 20}, {math.MinInt, math.MinInt}, {math.MaxInt, math.MaxInt}, {math.MaxInt, 0}, {0, math.MaxInt}, {0, math.MinInt}}

// P18.1, R1: of a machine that is nil, or that machine.New did not make, nothing is done; one of a machine has learnt nothing, and has done nothing.
func TestNew(t *testing.T) {
	for _, q := range []*quick.Quick{quick.New(nil), quick.New(&machine.Machine{}), {}, nil} {
		for _, most := range []int{-1, 0, 1, 3, math.MaxInt} {
			if n := q.Step(most); n != 0 {
				t.Error("Step of nothing did", n)
			}
		}
		q.Flush()
		nothing(t, q, append(nowhere, spot{0, 0})...)
	}
	if quick.New(nil) == nil {
		t.Error("New of nil is nothing at all")
	}
	m := of(t, codeOf(t, "print(1 + 2);"))
	was := m.State()
	q := quick.New(m)
	if !slices.Equal(m.State(), was) || m.Heap().Breaks() != 0 {
		t.Error("New does something to the machine")
	}
	for fn, f := range m.Program().Funcs {
		for pc := range f.Code {
			nothing(t, q, spot{fn, pc})
		}
	}
	nothing(t, q, nowhere...)
}

// P18.2: none, if most is below 1, or behind the end.
func TestNone(t *testing.T) {
	for _, end := range []struct {
		s   string
		end int
	}{{"print(1);", api.EndDone}, {"throw 1;", api.EndThrown}, {`let s = "abcd"; while (true) { s += s; }`, api.EndMemory}, {"", api.EndDone}} {
		b := load(t, end.s)
		for _, most := range []int{0, -1, -2, math.MinInt} {
			if b.step(most) != 0 || b.m.Count() != 0 {
				t.Error("Step of", most, "did something")
			}
		}
		b.run(1, 0, 1, -5, 3)
		if b.m.End() != end.end {
			t.Error(end.s, "ends with", b.m.End())
		}
		was := b.m.State()
		for _, most := range []int{math.MinInt, -1, 0, 1, 2, 3, math.MaxInt} {
			if n := b.q.Step(most); n != 0 {
				t.Error("Step of", most, "behind the end did", n)
			}
		}
		if !slices.Equal(b.m.State(), was) {
			t.Error("Step does something behind the end")
		}
		b.all()
	}
}

// P18.3: Flush forgets all, the counts too; it is learnt anew then.
func TestFlush(t *testing.T) {
	b := load(t, `function f(o, x) { o.b = x; return o.a + x; } let l = [{a: 1, b: 0}, {b: 0, a: 2}]; let i = 0; while (i < 9) { f(l[i % 2], i % 3 === 0 ? "x" : i); i++; }`)
	read, write := b.place(api.OpGetNamed, "a", 0), b.place(api.OpSetNamed, "b", 0)
	flushed := 0
	for n := 0; b.m.End() == api.EndRunning; n++ {
		b.step(1 + n%4)
		if b.q.Looked(read.fn, read.pc) < 2 || b.q.Looked(write.fn, write.pc) < 2 {
			continue
		}
		b.all()
		b.flush()
		flushed++
		for at := range b.s.known {
			t.Fatal("the scribe knows", at)
		}
		for fn, f := range b.s.p.Funcs {
			for pc := range f.Code {
				nothing(t, b.q, spot{fn, pc})
			}
		}
		b.same()
	}
	b.all()
	if flushed < 3 {
		t.Error("it was flushed", flushed, "times alone")
	}
	b.flush()
	b.flush()
	nothing(t, b.q, read, write)
}

// R5: what Site tells is the caller's own.
func TestOwn(t *testing.T) {
	b := load(t, "function f(o) { return o.a; } f({a: 1}); f({b: 1, a: 1}); f({c: 1, a: 1}); f({a: 2}); f({c: 3, a: 2});")
	at := b.place(api.OpGetNamed, "a", 0)
	for b.m.End() == api.EndRunning {
		b.step(2)
		s := b.q.Site(at.fn, at.pc)
		for n := range s.Entries {
			s.Entries[n] = api.Entry{Shape: 1, Holder: 5, Slot: 6, Cell: -1}
		}
		_ = append(s.Entries, api.Entry{Shape: 3})
		b.same()
	}
	b.all()
	if s := b.q.Site(at.fn, at.pc); s.State != api.SiteFew || len(s.Entries) != 3 {
		t.Error(s)
	}
}

// R6: the same calls tell the same.
func TestAgain(t *testing.T) {
	var first []string
	for range 3 {
		b := load(t, "let o = Object.create({a: 1}); let i = 0; while (i < 20) { o.a; o[\"b\" + i % 3] = i; i += 0.5; } print(i, o.b1);").run(1, 3, 2)
		l := b.m.State()
		if first != nil && !slices.Equal(first, l) {
			t.Error("another state")
		}
		first = l
	}
}

// Two that learn may go on by turns on one machine, and the machine by itself: each knows what it has met alone, and all stays as it is.
func TestTurns(t *testing.T) {
	b := load(t, "function P() { this.n = 0; } P.prototype.v = 1; let p = new P(); let i = 0; while (i < 40) { p.n += p.v; if (i % 7 === 6) { P.prototype.v++; } i++; } print(p.n);")
	other := quick.New(b.m)
	baseline := b.s.m
	for n := 0; b.m.End() == api.EndRunning; n++ {
		did := 1
		switch n % 5 {
		case 0, 1:
			did = b.q.Step(3)
		case 2, 3:
			did = other.Step(2)
		default:
			b.m.Step()
		}
		for range did {
			baseline.Step()
		}
		b.same()
	}
	if l := b.m.Log(); len(l) != 1 || l[0] != "135" {
		t.Error(l)
	}
	at := b.place(api.OpGetNamed, "v", 0)
	if b.q.Looked(at.fn, at.pc) == 0 || other.Looked(at.fn, at.pc) == 0 {
		t.Error("one of them did not come by")
	}
}
