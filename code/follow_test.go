package code_test

import (
	"fmt"
	"testing"

	"brazier/api"
	"brazier/code"
)

// P8.4: of each program that may be: behind each instruction there is a next place of the code, but behind OpReturn, and an OpThrow that nobody catches.
func TestGoesOnWithinItself(t *testing.T) {
	c := chance(84)
	taken := 0
	for range 3000 {
		p := anyProgram(&c)
		if c.below(2) == 0 {
			spoil(&c, &p)
		}
		if code.Check(p) != api.OK {
			continue
		}
		taken++
		for _, f := range p.Funcs {
			for at := range f.Code {
				staysWithin(t, f, at)
			}
			for _, to := range code.Starts(f) {
				if to < 0 || to >= len(f.Code) {
					t.Errorf("%+v: it starts at %d", f, to)
				}
			}
		}
	}
	if taken < 1500 {
		t.Error("few may be:", taken)
	}
}

func staysWithin(t *testing.T, f api.Func, at int) {
	t.Helper()
	l := code.Next(f, at)
	for _, to := range l {
		if to < 0 || to >= len(f.Code) {
			t.Errorf("%+v: from %d to %d", f, at, to)
		}
	}
	caught := false
	for _, h := range f.Handlers {
		caught = caught || h.From <= at && at < h.To
	}
	op := f.Code[at].Op
	if len(l) == 0 && op != api.OpReturn && (op != api.OpThrow || caught) {
		t.Errorf("%+v: nothing behind %d", f, at)
	}
}

// P8.2: programs made and spoilt by chance, held against a second reading of the chapter.
func TestCheckAgainstModel(t *testing.T) {
	c := chance(82)
	rights, wrongs := 0, 0
	for range 20000 {
		p := anyProgram(&c)
		checks(t, fmt.Sprintf("%+v", p), p, true)
		for range 1 + c.below(3) {
			spoil(&c, &p)
		}
		why := amiss(p)
		checks(t, fmt.Sprintf("%+v (%s)", p, why), p, why == "")
		if why == "" {
			rights++
		} else {
			wrongs++
		}
	}
	if rights < 2000 || wrongs < 2000 {
		t.Error("one sided:", rights, wrongs)
	}
}
