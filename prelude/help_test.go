package prelude_test

import (
	"fmt"
	"slices"
	"testing"

	"brazier/api"
	"brazier/code"
	"brazier/emit"
	"brazier/parse"
	"brazier/prelude"
	"brazier/scope"
)

// ahead is how many functions the prelude has: the program itself, and the six that its text makes.
const ahead = 7

// made is a text's code, as parse, scope and emit make it.
func made(t *testing.T, s string) api.Program {
	t.Helper()
	n, at, e := parse.Parse(s)
	if e != api.OK {
		t.Fatalf("%.2000s\nparse: %d at %d", s, e, at)
	}
	x, at, e := scope.Resolve(n)
	if e != api.OK {
		t.Fatalf("%.2000s\nscope: %d at %d", s, e, at)
	}
	p, e := emit.Program(n, x)
	if e != api.OK {
		t.Fatalf("%.2000s\nemit: %d", s, e)
	}
	return p
}

// own is the prelude's own code, which must be there.
func own(t *testing.T) api.Program {
	t.Helper()
	p, e := prelude.Program()
	if e != api.OK || len(p.Funcs) != ahead {
		t.Fatalf("Program: error %d, %d functions", e, len(p.Funcs))
	}
	return p
}

func same(p, q api.Program) bool { return slices.EqualFunc(p.Funcs, q.Funcs, sameFunc) }

func sameFunc(f, g api.Func) bool {
	return f.Name == g.Name && f.Params == g.Params && f.Regs == g.Regs && f.Generator == g.Generator &&
		slices.Equal(f.Code, g.Code) && slices.Equal(f.Consts, g.Consts) && slices.Equal(f.Captures, g.Captures) && slices.Equal(f.Handlers, g.Handlers)
}

// whole is a program in memory of its own, with all that lies behind its lists in their memory.
func whole(p api.Program) api.Program {
	q := api.Program{Funcs: slices.Clone(p.Funcs[:cap(p.Funcs)])}
	for i, f := range q.Funcs {
		q.Funcs[i].Code, q.Funcs[i].Consts = slices.Clone(f.Code[:cap(f.Code)]), slices.Clone(f.Consts[:cap(f.Consts)])
		q.Funcs[i].Captures, q.Funcs[i].Handlers = slices.Clone(f.Captures[:cap(f.Captures)]), slices.Clone(f.Handlers[:cap(f.Handlers)])
	}
	return q
}

// clone is a program in memory of its own.
func clone(p api.Program) api.Program {
	q := api.Program{Funcs: slices.Clone(p.Funcs)}
	for i, f := range q.Funcs {
		q.Funcs[i].Code, q.Funcs[i].Consts = slices.Clone(f.Code), slices.Clone(f.Consts)
		q.Funcs[i].Captures, q.Funcs[i].Handlers = slices.Clone(f.Captures), slices.Clone(f.Handlers)
	}
	return q
}

// room is the same list, with something behind it, where nobody may write.
func room[T any](l []T, stray T) []T {
	return slices.Concat(l, []T{stray, stray, stray})[:len(l)]
}

// strayCode would be renumbered by one who goes on behind the end of a list.
var strayCode = api.Instr{Op: api.OpClosure, A: -71, B: -72, C: -73}

// roomy is the same program, with room behind all its lists.
func roomy(p api.Program) api.Program {
	q := api.Program{Funcs: room(p.Funcs, api.Func{Name: "stray", Code: []api.Instr{strayCode}})}
	for i, f := range p.Funcs {
		q.Funcs[i].Code, q.Funcs[i].Consts = room(f.Code, strayCode), room(f.Consts, api.Const{Bits: 74})
		q.Funcs[i].Captures, q.Funcs[i].Handlers = room(f.Captures, api.Capture{Index: -75}), room(f.Handlers, api.Handler{From: -76})
	}
	return q
}

// fill writes all over a list, and behind it; filled tells whether that is all there still.
func fill[T any](l []T, v T) {
	l = l[:cap(l)]
	for i := range l {
		l[i] = v
	}
}

func filled[T comparable](l []T, v T) bool {
	return !slices.ContainsFunc(l[:cap(l)], func(w T) bool { return w != v })
}

// scribble writes all over a program, and tells whether each of its lists has memory of its own.
func scribble(p api.Program) bool {
	funcs := slices.Clone(p.Funcs)
	fill(p.Funcs, api.Func{Name: "scribbled", Params: -90})
	for i, f := range funcs {
		fill(f.Code, api.Instr{Op: 1000 + i})
		fill(f.Consts, api.Const{Bits: uint64(1000 + i)})
		fill(f.Captures, api.Capture{Index: 1000 + i})
		fill(f.Handlers, api.Handler{From: 1000 + i})
	}
	for i, f := range funcs {
		if !filled(f.Code, api.Instr{Op: 1000 + i}) || !filled(f.Consts, api.Const{Bits: uint64(1000 + i)}) || !filled(f.Captures, api.Capture{Index: 1000 + i}) || !filled(f.Handlers, api.Handler{From: 1000 + i}) {
			return false
		}
	}
	return true
}

// behind is what a program's functions are behind the prelude's: written by the words of the chapter alone.
func behind(p api.Program) api.Program {
	q := clone(p)
	for _, f := range q.Funcs {
		for i := range f.Code {
			if f.Code[i].Op == api.OpClosure {
				f.Code[i] = api.Instr{Op: api.OpClosure, A: f.Code[i].A, B: f.Code[i].B + ahead, C: f.Code[i].C}
			}
		}
	}
	return q
}

// joins tells what a program that may be becomes: the same each time, in memory of its own; what was handed in stays as it was, and may be written into later.
func joins(t *testing.T, what string, p api.Program) api.Program {
	t.Helper()
	if e := code.Check(p); e != api.OK {
		t.Fatalf("%.2000s: code.Check refuses it: %d", what, e)
	}
	want := api.Program{Funcs: slices.Concat(own(t).Funcs, behind(p).Funcs)}
	given := roomy(p)
	was := whole(given)
	told := func(when string) api.Program {
		t.Helper()
		q, from, e := prelude.Joined(given)
		if e != api.OK || from != ahead || !same(q, want) {
			t.Errorf("%.2000s: %s: error %d, from %d, %s", what, when, e, from, unlike(q, want))
		}
		if !same(whole(given), was) {
			t.Errorf("%.2000s: %s: what was handed in is changed: %s", what, when, unlike(whole(given), was))
		}
		return q
	}
	first, second := told("first"), told("second")
	if !scribble(first) {
		t.Errorf("%.2000s: two lists of the answer share memory", what)
	}
	if !same(second, want) {
		t.Errorf("%.2000s: two answers share memory", what)
	}
	told("behind what was written into an answer")
	scribble(given)
	if !same(second, want) {
		t.Errorf("%.2000s: the answer shares memory with what was handed in", what)
	}
	return second
}

// joined is what is told of a program that may be.
func joined(t *testing.T, p api.Program) api.Program {
	t.Helper()
	q, from, e := prelude.Joined(p)
	if e != api.OK || from != ahead || len(q.Funcs) != from+len(p.Funcs) {
		t.Fatalf("error %d, from %d, %d functions", e, from, len(q.Funcs))
	}
	return q
}

// refuses tells that a program is refused, and nothing else is told; what was handed in stays as it was.
func refuses(t *testing.T, what string, p api.Program) {
	t.Helper()
	if code.Check(p) != api.ErrCodeForm {
		t.Fatalf("%s: code.Check takes it", what)
	}
	given := roomy(p)
	was := whole(given)
	for range 2 {
		if q, from, e := prelude.Joined(given); e != api.ErrCodeForm || from != 0 || q.Funcs != nil {
			t.Errorf("%s: error %d, from %d, %d functions", what, e, from, len(q.Funcs))
		}
	}
	if !same(whole(given), was) {
		t.Errorf("%s: what was handed in is changed", what)
	}
}

// unlike tells the first difference of two programs.
func unlike(p, q api.Program) string {
	for i := range min(len(p.Funcs), len(q.Funcs)) {
		f, g := p.Funcs[i], q.Funcs[i]
		for k := range min(len(f.Code), len(g.Code)) {
			if f.Code[k] != g.Code[k] {
				return fmt.Sprintf("function %d at %d: %v, not %v", i, k, f.Code[k], g.Code[k])
			}
		}
		if !sameFunc(f, g) {
			return fmt.Sprintf("function %d: %.300s, not %.300s", i, fmt.Sprint(f), fmt.Sprint(g))
		}
	}
	return fmt.Sprintf("%d functions, not %d", len(p.Funcs), len(q.Funcs))
}

// chance tells the same numbers in each run.
type chance uint64

func (c *chance) below(n int) int {
	*c += 0x9e3779b97f4a7c15
	z := uint64(*c)
	z = (z ^ z>>30) * 0xbf58476d1ce4e5b9
	z = (z ^ z>>27) * 0x94d049bb133111eb
	return int((z ^ z>>31) % uint64(n))
}

func one[T any](c *chance, l ...T) T { return l[c.below(len(l))] }
