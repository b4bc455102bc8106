package quick_test

import (
	"fmt"
	"slices"
	"strings"
	"testing"

	"brazier/api"
	"brazier/emit"
	"brazier/fuse"
	"brazier/machine"
	"brazier/parse"
	"brazier/quick"
	"brazier/scope"
)

// plenty is more than any program of the tests that ends needs.
const plenty = 1 << 20

// codeOf is a text's code.
func codeOf(t *testing.T, s string) api.Program {
	t.Helper()
	n, at, e := parse.Parse(s)
	if e != api.OK {
		t.Fatalf("%.3000s\nparse: %d at %d", s, e, at)
	}
	x, at, e := scope.Resolve(n)
	if e != api.OK {
		t.Fatalf("%.3000s\nscope: %d at %d", s, e, at)
	}
	p, e := emit.Program(n, x)
	if e != api.OK {
		t.Fatalf("%.3000s\nemit: %d", s, e)
	}
	return p
}

// of is a machine that stands ahead of a program that must be taken.
func of(t *testing.T, p api.Program) *machine.Machine {
	t.Helper()
	m, e := machine.New(p)
	if e != api.OK || m == nil {
		t.Fatalf("New: %d, %v", e, m)
	}
	return m
}

// both are a machine that learns, and beside it a baseline machine, of which is written down what there was to be learnt.
type both struct {
	t       *testing.T
	what    string // of which program
	m       *machine.Machine
	q       *quick.Quick
	s       *scribe
	groups  [][]api.Group
	seen    map[spot][5]int // of each place that was asked for: state, Arith, Call, Looked, Turned
	flushes int
}

func beside(t *testing.T, what string, p api.Program) *both {
	t.Helper()
	b := &both{t: t, what: what, m: of(t, p), s: newScribe(of(t, p)), seen: map[spot][5]int{}}
	b.q = quick.New(b.m)
	if b.q == nil {
		t.Fatal("New told nothing")
	}
	for _, f := range b.s.p.Funcs {
		b.groups = append(b.groups, fuse.Groups(f))
	}
	return b
}

func load(t *testing.T, s string) *both {
	t.Helper()
	return beside(t, s, codeOf(t, s))
}

func (b *both) fail(l ...any) {
	b.t.Helper()
	b.t.Fatalf("%.6000s\nat %d: %s", b.what, b.s.m.Count(), fmt.Sprintln(l...))
}

// step is one Step of so many at most: what it must answer, and what is known then of the places that it came by.
func (b *both) step(most int) int {
	b.t.Helper()
	want, places := b.s.group(b.groups, most)
	if n := b.q.Step(most); n != want {
		b.fail("Step of", most, "did", n, "and not", want)
	}
	if b.m.Count() != b.s.m.Count() || b.m.Func() != b.s.m.Func() || b.m.Pc() != b.s.m.Pc() || b.m.End() != b.s.m.End() {
		b.fail("it stands at", b.m.Func(), b.m.Pc(), b.m.Count(), b.m.End(), "and not at", b.s.m.Func(), b.s.m.Pc(), b.s.m.Count(), b.s.m.End())
	}
	for _, at := range places {
		b.knows(at)
	}
	return want
}

// knows: of a place is known what was to be learnt there.
func (b *both) knows(at spot) {
	b.t.Helper()
	want := b.s.at(at)
	s := b.q.Site(at.fn, at.pc)
	if s.State != want.site.State || !slices.Equal(s.Entries, want.site.Entries) {
		b.fail("Site of", at, "is", s, "and not", want.site)
	}
	got := [4]int{b.q.Arith(at.fn, at.pc), b.q.Call(at.fn, at.pc), b.q.Looked(at.fn, at.pc), b.q.Turned(at.fn, at.pc)}
	if got != [4]int{want.arith, want.call, want.looked, want.turned} {
		b.fail("Arith, Call, Looked, Turned of", at, "are", got, "and not", want)
	}
	b.forward(at, [5]int{s.State, got[0], got[1], got[2], got[3]})
}

// forward: P18.8: nothing of what is told of a place goes back, unless all is forgotten.
func (b *both) forward(at spot, is [5]int) {
	b.t.Helper()
	for n, was := range b.seen[at] {
		if is[n] < was {
			b.fail("P18.8: what was known at", at, "goes back from", b.seen[at], "to", is)
		}
	}
	b.seen[at] = is
}

// same: both machines are in one state.
func (b *both) same() {
	b.t.Helper()
	got, want := b.m.State(), b.s.m.State()
	if slices.Equal(got, want) {
		return
	}
	for n := range min(len(got), len(want)) {
		if got[n] != want[n] {
			b.fail("the state is\n", got[n], "\nand not\n", want[n])
		}
	}
	b.fail("the state has", len(got), "lines and not", len(want))
}

func (b *both) flush() {
	b.q.Flush()
	b.s.flush()
	clear(b.seen)
	b.flushes++
}

// all: what is known at each place of all the code, and what follows from it.
func (b *both) all() {
	b.t.Helper()
	b.same()
	for fn, f := range b.s.p.Funcs {
		for pc := range f.Code {
			b.knows(spot{fn, pc})
		}
	}
	if h, k := b.m.Heap(), b.s.m.Heap(); h.Breaks() != k.Breaks() || h.Shapes() != k.Shapes() || h.Objects() != k.Objects() {
		b.fail("Breaks, Shapes, Objects are", h.Breaks(), h.Shapes(), h.Objects(), "and not", k.Breaks(), k.Shapes(), k.Objects())
	}
	b.laws()
}

// run goes on to the end: by so many at most at a time, in order, again and again. The states are held against each other at each boundary, or (often above 1) at some of them.
func (b *both) run(often int, mosts ...int) *both {
	b.t.Helper()
	did := 0
	for n := 0; b.s.m.End() == api.EndRunning; n++ {
		if did > plenty {
			b.fail("no end")
		}
		did += b.step(mosts[n%len(mosts)])
		if n%often == 0 {
			b.same()
		}
		if n%(often*97) == 0 {
			b.laws()
		}
	}
	b.all()
	if n := b.q.Step(3); n != 0 {
		b.fail("behind the end there was something to be done:", n)
	}
	return b
}

// prints: a program prints those lines (parted by |), and ends so.
func (b *both) prints(lines string, end int) *both {
	b.t.Helper()
	if got := strings.Join(b.m.Log(), "|"); got != lines || b.m.End() != end {
		b.t.Errorf("%.3000s\nprints %q, %d %s\nwant %q, %d", b.what, got, b.m.End(), b.m.Uncaught(), lines, end)
	}
	return b
}

// place is where the program's own code does such a thing with a property of that name (or of none): the place number n of them.
func (b *both) place(op int, name string, n int) spot {
	b.t.Helper()
	for fn, f := range b.s.p.Funcs {
		for pc, i := range f.Code {
			if fn < ahead || i.Op != op || keyOf(f, i) != name {
				continue
			}
			if n == 0 {
				return spot{fn, pc}
			}
			n--
		}
	}
	b.t.Fatalf("%.3000s\nno place %d of %d %s", b.what, n, op, name)
	return spot{}
}

// ahead is how many functions the prelude has: the program's come behind them.
const ahead = 7

// keyOf is the name of the property that an instruction is about.
func keyOf(f api.Func, i api.Instr) string {
	switch i.Op {
	case api.OpGetNamed:
		return f.Consts[i.C].Text
	case api.OpSetNamed:
		return f.Consts[i.B].Text
	}
	return ""
}

// chance tells the same numbers in each run.
type chance uint64

func (c *chance) next() uint64 {
	*c += 0x9e3779b97f4a7c15
	z := uint64(*c)
	z = (z ^ z>>30) * 0xbf58476d1ce4e5b9
	z = (z ^ z>>27) * 0x94d049bb133111eb
	return z ^ z>>31
}

func (c *chance) below(n int) int { return int(c.next() % uint64(n)) }

func (c *chance) of(l ...string) string { return l[c.below(len(l))] }
