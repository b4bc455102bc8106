package engine_test

import (
	"fmt"
	"slices"
	"strings"
	"testing"

	"brazier/api"
	"brazier/emit"
	"brazier/engine"
	"brazier/machine"
	"brazier/parse"
	"brazier/quick"
	"brazier/scope"
)

// plenty is more than any program of the tests needs that ends.
const plenty = 1 << 20

// load is an engine of a text that must be taken.
func load(t *testing.T, s string) *engine.Engine {
	t.Helper()
	e, at, code := engine.Load(s)
	if e == nil || at != 0 || code != api.OK {
		t.Fatalf("%.3000s\nLoad: %v, %d, %d (at %.100q)", s, e, at, code, s[min(at, len(s)):])
	}
	return e
}

// baseline is a machine of a text, made without an engine.
func baseline(t *testing.T, s string) *machine.Machine {
	t.Helper()
	n, at, code := parse.Parse(s)
	if code != api.OK {
		t.Fatalf("%.3000s\nparse: %d at %d", s, code, at)
	}
	names, at, code := scope.Resolve(n)
	if code != api.OK {
		t.Fatalf("%.3000s\nscope: %d at %d", s, code, at)
	}
	p, code := emit.Program(n, names)
	if code != api.OK {
		t.Fatalf("%.3000s\nemit: %d", s, code)
	}
	m, code := machine.New(p)
	if code != api.OK {
		t.Fatalf("%.3000s\nmachine: %d", s, code)
	}
	return m
}

// turn is one Run, and whether all is forgotten ahead of it.
type turn struct {
	fuel   int
	learns bool
	flush  bool
}

// pair is an engine, and a baseline machine that has done as many instructions.
type pair struct {
	t    *testing.T
	text string
	e    *engine.Engine
	m    *machine.Machine
}

func both(t *testing.T, s string) *pair {
	t.Helper()
	return &pair{t, s, load(t, s), baseline(t, s)}
}

func (p *pair) fail(l ...any) {
	p.t.Helper()
	p.t.Fatalf("%.6000s\nat %d: %s", p.text, p.m.Count(), fmt.Sprintln(l...))
}

// run does a turn on both, and tells how many instructions it had.
func (p *pair) run(k turn) int {
	p.t.Helper()
	if k.flush {
		p.e.Flush()
	}
	n := p.e.Run(k.fuel, k.learns)
	want := 0
	for want < k.fuel && p.m.Step() {
		want++
	}
	if n != want || p.e.Machine().Count() != p.m.Count() || p.e.Machine().End() != p.m.End() {
		p.fail("Run of", k, "did", n, "and not", want, ": Count", p.e.Machine().Count(), "End", p.e.Machine().End(), "and not", p.m.End())
	}
	return n
}

// same: both machines are in one state.
func (p *pair) same() {
	p.t.Helper()
	got, want := p.e.Machine().State(), p.m.State()
	for n := range min(len(got), len(want)) {
		if got[n] != want[n] {
			p.fail("the state is\n", got[n], "\nand not\n", want[n])
		}
	}
	if len(got) != len(want) {
		p.fail("the state has", len(got), "lines and not", len(want))
	}
}

func (p *pair) running() bool { return p.m.End() == api.EndRunning }

// toEnd does turns, again and again, till the program ends. The states are held against each other each time, or (often above 1) at some of them, and in the end.
func (p *pair) toEnd(often int, turns ...turn) *pair {
	p.t.Helper()
	for n := 0; p.running(); n++ {
		if p.run(turns[n%len(turns)]); n%often == 0 {
			p.same()
		}
		if p.m.Count() > plenty {
			p.fail("no end")
		}
	}
	p.same()
	for _, learns := range []bool{true, false} {
		if n := p.e.Run(9, learns); n != 0 {
			p.fail("behind the end Run did", n)
		}
	}
	p.same()
	return p
}

// prints: a program has printed those lines, and ended so.
func (p *pair) prints(lines []string, end int, left string) {
	p.t.Helper()
	m := p.e.Machine()
	if !slices.Equal(m.Log(), lines) || m.End() != end || m.Uncaught() != left {
		p.t.Errorf("%.6000s\nprints %q, %d %q\nwant   %q, %d %q", p.text, m.Log(), m.End(), m.Uncaught(), lines, end, left)
	}
}

// parted are lines, parted by |.
func parted(lines string) []string {
	if lines == "" {
		return nil
	}
	return strings.Split(lines, "|")
}

// ways are those to run a program: by one machine at once, by the other, and by both by turns in slices of unlike lengths, with Flush at some of the bounds.
func ways() [][]turn {
	const all = 1 << 30
	return [][]turn{
		{{all, false, false}},
		{{all, true, false}},
		{{1, true, false}},
		{{2, true, false}},
		{{5, true, false}, {3, false, false}, {0, true, false}, {1, false, false}, {2, true, false}, {-1, false, false}, {17, true, false}},
		{{1, true, true}, {2, true, true}, {3, true, true}},
		{{97, true, false}, {31, true, false}, {7, false, true}, {11, true, false}},
		{{1009, true, false}, {1, false, false}, {4, true, false}, {503, true, true}},
		{{700, false, false}, {all, true, false}},
		{{700, true, false}, {all, false, true}},
	}
}

// chance tells the same numbers in each run.
type chance uint64

func (c *chance) next() uint64 {
	*c += 0x9e3779b97f4a7c15
	z := uint64(*c)
	z = (z ^ z>>30) * 0xbf58476d1ce4e5b9
	z = (z ^ z>>27) * 0x94d049bb133111eb
	return z ^ z>>31
}

func (c *chance) below(n int) int { return int(c.next() % uint64(n)) }

func (c *chance) of(l ...string) string { return l[c.below(len(l))] }

// known is what is known at a place.
func known(q *quick.Quick, fn, pc int) string {
	return fmt.Sprint(q.Site(fn, pc), q.Arith(fn, pc), q.Call(fn, pc), q.Looked(fn, pc), q.Turned(fn, pc))
}
