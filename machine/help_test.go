package machine_test

import (
	"fmt"
	"slices"
	"strings"
	"testing"

	"brazier/api"
	"brazier/emit"
	"brazier/machine"
	"brazier/parse"
	"brazier/scope"
	"brazier/word"
)

// ahead is how many functions the prelude has: the program's come behind them.
const ahead = 7

// plenty is more than any program of the tests that ends needs.
const plenty = 2 << 20

// treeOf is a text's tree, with its names.
func treeOf(t *testing.T, s string) (api.Node, api.Scoped) {
	t.Helper()
	n, at, e := parse.Parse(s)
	if e != api.OK {
		t.Fatalf("%.3000s\nparse: %d at %d", s, e, at)
	}
	x, at, e := scope.Resolve(n)
	if e != api.OK {
		t.Fatalf("%.3000s\nscope: %d at %d", s, e, at)
	}
	return n, x
}

// codeOf is a text's code.
func codeOf(t *testing.T, s string) api.Program {
	t.Helper()
	n, x := treeOf(t, s)
	p, e := emit.Program(n, x)
	if e != api.OK {
		t.Fatalf("%.3000s\nemit: %d", s, e)
	}
	return p
}

// of is a machine that stands ahead of a program that must be taken.
func of(t *testing.T, p api.Program) *machine.Machine {
	t.Helper()
	m, e := machine.New(p)
	if e != api.OK || m == nil {
		t.Fatalf("New: %d, %v", e, m)
	}
	return m
}

func load(t *testing.T, s string) *machine.Machine {
	t.Helper()
	return of(t, codeOf(t, s))
}

// run does at most so many instructions, and tells how many.
func run(m *machine.Machine, fuel int) int {
	for n := range fuel {
		if !m.Step() {
			return n
		}
	}
	return fuel
}

// ended is how a machine stands, in words.
func ended(m *machine.Machine) string {
	switch m.End() {
	case api.EndRunning:
		return "fuel"
	case api.EndDone:
		return "done"
	case api.EndThrown:
		return "thrown " + m.Uncaught()
	case api.EndMemory:
		return "memory"
	}
	return fmt.Sprint("end ", m.End())
}

// prints: a program prints those lines (parted by |), and ends so (nothing: it is done); what follows from that of every machine holds, too; its tree means the same.
func prints(t *testing.T, s, lines, end string) *machine.Machine {
	t.Helper()
	var want []string
	if lines != "" {
		want = strings.Split(lines, "|")
	}
	if end == "" {
		end = "done"
	}
	m := load(t, s)
	did := run(m, plenty)
	if !slices.Equal(m.Log(), want) || ended(m) != end {
		t.Errorf("%.3000s\nprints %q, %s\nwant %q, %s", s, m.Log(), ended(m), want, end)
	}
	if m.Count() != did {
		t.Errorf("%.3000s\n%d steps, Count %d", s, did, m.Count())
	}
	if m.End() != api.EndThrown && m.Uncaught() != "" {
		t.Errorf("%.3000s\nUncaught %q, %s", s, m.Uncaught(), ended(m))
	}
	if m.End() != api.EndRunning {
		stands(t, m)
	}
	n, _ := treeOf(t, s)
	w := walk(n, plenty)
	if !slices.Equal(w.log, want) || w.end != end {
		t.Errorf("%.3000s\nthe tree prints %q, %s\nwant %q, %s", s, w.log, w.end, want, end)
	}
	inTime(t, s, w, m)
	return m
}

// stands: behind the end nothing goes on.
func stands(t *testing.T, m *machine.Machine) {
	t.Helper()
	was := strings.Join(m.State(), "\n")
	count := m.Count()
	m.SetReg(0, word.True)
	m.Skip()
	m.Jump(0)
	if m.Step() || m.Count() != count || m.Func() != -1 || m.Pc() != 0 || m.Reg(0) != word.Undefined {
		t.Errorf("behind the end: Count %d (was %d), Func %d, Pc %d, Reg %x", m.Count(), count, m.Func(), m.Pc(), m.Reg(0))
	}
	if strings.Join(m.State(), "\n") != was {
		t.Error("behind the end the state changes")
	}
}

// means: programs, what they print (lines parted by |), and how they end (nothing: they are done).
type means struct{ s, lines, end string }

func each(t *testing.T, l []means) {
	t.Helper()
	for _, k := range l {
		prints(t, k.s, k.lines, k.end)
	}
}

// chance tells the same numbers in each run.
type chance uint64

func (c *chance) next() uint64 {
	*c += 0x9e3779b97f4a7c15
	z := uint64(*c)
	z = (z ^ z>>30) * 0xbf58476d1ce4e5b9
	z = (z ^ z>>27) * 0x94d049bb133111eb
	return z ^ z>>31
}

func (c *chance) below(n int) int { return int(c.next() % uint64(n)) }

func (c *chance) of(l ...string) string { return l[c.below(len(l))] }

// text is what a word of a machine says.
func text(t *testing.T, m *machine.Machine, w api.Word) string {
	t.Helper()
	s, ok := m.Heap().TextOf(w)
	if !ok {
		t.Fatalf("%x is no text", w)
	}
	return s
}
