package host_test

import (
	"math"
	"testing"

	"brazier/api"
	"brazier/engine"
	"brazier/host"
)

// P20.3: programs by chance, whose meaning is known: by turns of chance, they print it, and end so.
func TestProgramsByChance(t *testing.T) {
	for part := range 8 {
		t.Run(string(rune('a'+part)), func(t *testing.T) {
			t.Parallel()
			c := chance(2000 + part)
			for range 40 {
				k := makes(&c)
				for range 3 {
					l := played(k.text, c.turns())
					k.reads(t, l, unseen(t, l))
				}
			}
		})
	}
}

// turns are some runs, and at times all is forgotten.
func (c *chance) turns() (l []api.Act) {
	long := of(c, 3, 20, 200, 2000)
	for range 2 + c.below(9) {
		l = append(l, run(c.below(long)-1, c.below(4) > 0))
		if c.below(5) == 0 {
			l = append(l, flush())
		}
	}
	return append(l, run(1+c.below(long), c.below(2) == 0))
}

// P20.1 to P20.3: scripts by chance are answered as the words say: act by act, of the program that is there.
func TestScriptsByChance(t *testing.T) {
	for part := range 8 {
		t.Run(string(rune('a'+part)), func(t *testing.T) {
			t.Parallel()
			c, met := chance(2100+part), map[api.Errno]int{}
			for range 25 {
				l := c.script()
				told := unseen(t, l)
				want := &words{t: t}
				for n, a := range l {
					want.holds(a, told[n])
					met[told[n].Code]++
				}
				differs(t, l, host.Play(l), told)
			}
			for _, code := range []api.Errno{api.OK, api.ErrArg, api.ErrHostNone, api.ErrParseForm, api.ErrScopeName, api.ErrScopeTwice, api.ErrScopeConst, api.ErrLexString} {
				if met[code] == 0 {
					t.Error("met too seldom:", code, met)
				}
			}
		})
	}
}

// script is one of acts by chance.
func (c *chance) script() (l []api.Act) {
	long, loads := of(c, 10, 100, 1000, 10000), 2+c.below(12)
	for range c.below(80) {
		switch c.below(loads) {
		case 0:
			l = append(l, load(c.someText()))
		case 1:
			l = append(l, of(c, read(), flush()))
		default:
			l = append(l, c.act(long))
		}
	}
	return l
}

func (c *chance) someText() string {
	if c.below(4) > 0 {
		return makes(c).text
	}
	return of(c, "x", "x;", "let a; let a;", "const a = 1; a = 2;", "'", "print(1", "", "print = 2;", lasting)
}

func (c *chance) act(long int) api.Act {
	switch c.below(10) {
	case 0:
		return api.Act{Kind: of(c, 0, 5, -1, 9, math.MaxInt), Text: counts, Fuel: 9, Quick: true}
	case 1:
		return run(of(c, 0, -1, math.MinInt, math.MaxInt, all, all+1), c.below(2) == 0)
	case 2, 3:
		return read()
	case 4:
		return flush()
	}
	return run(c.below(long), c.below(3) > 0)
}

// words is what a host is, by the chapter's words: a program on the baseline machine alone, or none.
type words struct {
	t      *testing.T
	engine *engine.Engine
}

// holds: an act is answered so.
func (w *words) holds(a api.Act, got api.Told) {
	w.t.Helper()
	var want api.Told
	switch {
	case a.Kind < 1 || a.Kind > 4:
		want.Code = api.ErrArg
	case a.Kind == api.HostLoad:
		w.engine, want.At, want.Code = engine.Load(a.Text)
	case w.engine == nil:
		want.Code = api.ErrHostNone
	case a.Kind == api.HostRun:
		for want.Count < a.Fuel && want.Count < 1048576 && w.engine.Machine().Step() {
			want.Count++
		}
	case a.Kind == api.HostRead:
		m := w.engine.Machine()
		want = api.Told{Count: m.Count(), End: m.End(), Log: m.Log(), Uncaught: m.Uncaught()}
	}
	if !alike(got, want) {
		w.t.Fatalf("%.3000v is answered %+v and not %+v", a, got, want)
	}
}
