package engine_test

import (
	"slices"
	"testing"

	"brazier/api"
	"brazier/parse"
)

// few is as many steps, and instructions, as a program by chance has.
const few = 40000

// P19.3, P19.4: programs by chance, by both machines by turns, forgetting at times: they print what they mean, and at each bound the state is the baseline machine's.
func TestByChance(t *testing.T) {
	for part := range 8 {
		t.Run(string(rune('a'+part)), func(t *testing.T) {
			t.Parallel()
			k := &maker{chance: chance(1900 + part)}
			ended, thrown, many := 0, 0, 0
			for range 150 {
				s := k.program()
				p := byTurns(t, &k.chance, s)
				meant(t, p)
				switch p.m.End() {
				case api.EndDone:
					ended++
				case api.EndThrown:
					thrown++
				}
				if len(p.m.Log()) > 20 {
					many++
				}
			}
			if ended < 50 || many < 50 {
				t.Error("too little is met:", ended, thrown, many)
			}
		})
	}
}

// byTurns runs a program, each slice as chance says.
func byTurns(t *testing.T, c *chance, s string) *pair {
	t.Helper()
	p := both(t, s)
	long := 1 + c.below(2000)
	forgets := c.below(20)
	for p.running() && p.m.Count() < few {
		k := turn{fuel: c.below(long) - 1, learns: c.below(4) > 0, flush: c.below(20) < forgets && c.below(4) == 0}
		if c.below(6) == 0 {
			k.fuel = c.below(5)
		}
		p.run(k)
		if c.below(2+few/100/(1+long/10)) == 0 {
			p.same()
		}
	}
	p.same()
	return p
}

// meant: what was printed is what the tree means, as far as both have come.
func meant(t *testing.T, p *pair) {
	t.Helper()
	tree, _, _ := parse.Parse(p.text)
	w := newWorld()
	w.most = w.steps + few
	end, left := w.ends(func() { w.run(tree) })
	m := p.e.Machine()
	got, want := m.Log(), w.log
	if p.running() || end < 0 {
		far := min(len(got), len(want))
		got, want = got[:far], want[:far]
	} else if m.End() != end || m.Uncaught() != left {
		p.fail("ends", m.End(), m.Uncaught(), "and not", end, left)
	}
	if !slices.Equal(got, want) {
		p.fail("prints", got, "\nand not", want)
	}
}
