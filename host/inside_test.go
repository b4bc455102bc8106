package host

import (
	"testing"

	"brazier/api"
	"brazier/quick"
)

// asks is a program that meets one shape at its one place, again and again.
const asks = "let o = {a: 1}; let i = 0; while (i < 500) { i += o.a; }"

// learnt is how often what is known at a place of the program became another thing, in all.
func learnt(h *Host) (n int) {
	var q *quick.Quick = h.engine.Quick()
	for fn, f := range h.engine.Machine().Program().Funcs {
		for pc := range f.Code {
			n += q.Turned(fn, pc)
		}
	}
	return n
}

// P20.1: it is the machine that learns that does a run, if that is asked for, and the other if not; and a flush forgets.
func TestLearns(t *testing.T) {
	h := New()
	h.Do(api.Act{Kind: api.HostLoad, Text: asks})
	h.Do(api.Act{Kind: api.HostRun, Fuel: 60})
	if learnt(h) != 0 {
		t.Error("the baseline machine has learnt")
	}
	h.Do(api.Act{Kind: api.HostRun, Fuel: 40, Quick: true})
	if learnt(h) == 0 {
		t.Error("nothing was learnt")
	}
	was := learnt(h)
	h.Do(api.Act{Kind: api.HostRead})
	h.Do(api.Act{Kind: api.HostRun, Fuel: 0, Quick: true})
	h.Do(api.Act{Kind: 9})
	if learnt(h) != was {
		t.Error("what was learnt is another thing now")
	}
	h.Do(api.Act{Kind: api.HostFlush})
	if learnt(h) != 0 {
		t.Error("something is still known")
	}
	h.Do(api.Act{Kind: api.HostRun, Fuel: api.MaxFuel, Quick: true})
	if learnt(h) == 0 {
		t.Error("behind it nothing is learnt")
	}
	h.Do(api.Act{Kind: api.HostLoad, Text: asks})
	if learnt(h) != 0 {
		t.Error("a new program knows something")
	}
}
