package fuse_test

import (
	"fmt"
	"math"
	"slices"
	"testing"

	"brazier/api"
	"brazier/code"
	"brazier/fuse"
)

// P10.1: the chapter's examples.
func TestExamples(t *testing.T) {
	hasGroups(t, "two Moves", api.Func{Code: []api.Instr{do(api.OpMove, 0, 0, 0), do(api.OpMove, 0, 0, 0), back}}, api.GroupMoves, api.GroupOne)
	sum := []api.Instr{do(api.OpPrim, 1, 1, 0), do(api.OpPrim, 2, 2, 0), do(api.OpAdd, 0, 1, 2), back}
	hasGroups(t, "a sum", api.Func{Code: sum}, api.GroupArith, api.GroupOne)
	hasGroups(t, "and a jump", api.Func{Code: append(slices.Clone(sum), do(api.OpJump, 1, 0, 0))}, ones(5)...)
	hasGroups(t, "and a catch", api.Func{Code: sum, Handlers: []api.Handler{{From: 0, To: 4, Target: 1}}}, ones(4)...)
}

// P10.1: no code; each instruction by itself.
func TestOnes(t *testing.T) {
	hasGroups(t, "none", api.Func{})
	hasGroups(t, "none, and much else", api.Func{Name: "f", Params: 2, Regs: 9, Generator: true, Code: []api.Instr{}, Consts: make([]api.Const, 3), Captures: make([]api.Capture, 2), Handlers: []api.Handler{{}, {Target: 1}}})
	for op := -2; op <= api.Ops+2; op++ {
		hasGroups(t, fmt.Sprint("one ", op), api.Func{Code: []api.Instr{do(op, 9, 9, 9)}}, api.GroupOne)
		l := []int{api.GroupOne, api.GroupOne}
		if op == api.OpMove {
			l = []int{api.GroupMoves}
		}
		hasGroups(t, fmt.Sprint("two of ", op), api.Func{Code: []api.Instr{do(op, 9, 9, 9), do(op, 9, 9, 9)}}, l...)
	}
}

// P10.1: each kind by itself, and each one right behind each other one, and a third.
func TestEachBehindEach(t *testing.T) {
	for _, a := range kinds {
		hasGroups(t, "alone", api.Func{Code: fits(a)}, a)
		for _, b := range kinds {
			hasGroups(t, "two", api.Func{Code: cat(fits(a), fits(b))}, a, b)
			for _, c := range kinds {
				hasGroups(t, "three", api.Func{Code: cat(fits(a), fits(b), fits(c))}, a, b, c)
			}
		}
	}
}

// P10.1: which Ops may stand at each place of a group: all others are tried.
func TestOps(t *testing.T) {
	may := map[[2]int]func(op int) bool{
		{api.GroupArith, 0}: func(op int) bool { return op == api.OpPrim },
		{api.GroupArith, 1}: func(op int) bool { return op == api.OpPrim },
		{api.GroupArith, 2}: func(op int) bool { return op >= api.OpAdd && op <= api.OpGreaterEq },
		{api.GroupTest, 0}:  func(op int) bool { return op >= api.OpLess && op <= api.OpNotSame },
		{api.GroupTest, 1}:  func(op int) bool { return op == api.OpJumpIf || op == api.OpJumpNot },
		{api.GroupFree, 0}:  func(op int) bool { return op == api.OpFree },
		{api.GroupFree, 1}:  func(op int) bool { return op == api.OpBoxGet },
		{api.GroupMoves, 0}: func(op int) bool { return op == api.OpMove },
		{api.GroupMoves, 1}: func(op int) bool { return op == api.OpMove },
	}
	ops := []int{math.MinInt, math.MaxInt, 256 + api.OpMove, -api.OpMove}
	for op := -2; op <= api.Ops+3; op++ {
		ops = append(ops, op)
	}
	for place, is := range may {
		for _, op := range ops {
			l := fits(place[0])
			l[place[1]].Op = op
			if place[0] == api.GroupTest && op == api.OpJump { // so that it jumps elsewhere
				l[place[1]].A = 9
			}
			want := ones(len(l))
			if is(op) {
				want = []int{place[0]}
			}
			hasGroups(t, fmt.Sprint("Op ", op), api.Func{Code: l}, want...)
		}
	}
}

// P10.1: operands that fit but for one; those that may be anything.
func TestOperands(t *testing.T) {
	field := func(i *api.Instr, k int) *int { return []*int{&i.A, &i.B, &i.C}[k] }
	must := [][3]int{ // a kind, an instruction of it, an operand
		{api.GroupArith, 0, 0}, {api.GroupArith, 1, 0}, {api.GroupArith, 2, 1}, {api.GroupArith, 2, 2},
		{api.GroupTest, 0, 0}, {api.GroupTest, 1, 0},
		{api.GroupFree, 0, 0}, {api.GroupFree, 1, 1},
	}
	for _, kind := range kinds {
		for at := range fits(kind) {
			for k := range 3 {
				hangs := slices.Contains(must, [3]int{kind, at, k})
				for _, v := range []int{math.MinInt, -5, -1, 7, 8, 300, math.MaxInt} {
					l := fits(kind)
					*field(&l[at], k) = v
					want := []int{kind}
					if hangs {
						want = ones(len(l))
					}
					hasGroups(t, fmt.Sprintf("operand %d of %d is %d", k, at, v), api.Func{Code: l}, want...)
				}
			}
		}
	}
}

// P10.1: operands that are the same must be so, whatever they are: registers may be one, or none that there are.
func TestSameOperands(t *testing.T) {
	for _, v := range []int{math.MinInt, -1, 0, 1, 400, math.MaxInt} {
		for _, w := range []int{math.MinInt, -1, 0, 1, 400, math.MaxInt} {
			hasGroups(t, "sum", api.Func{Code: []api.Instr{do(api.OpPrim, v, 3, 1), do(api.OpPrim, w, 4, 9), do(api.OpXor, 5, v, w)}}, api.GroupArith)
			hasGroups(t, "test", api.Func{Code: []api.Instr{do(api.OpEqual, v, w, w), do(api.OpJumpNot, v, 77, w)}}, api.GroupTest)
			hasGroups(t, "box", api.Func{Code: []api.Instr{do(api.OpFree, v, w, w), do(api.OpBoxGet, w, v, w)}}, api.GroupFree)
			if v != w {
				hasGroups(t, "sum the other way", api.Func{Code: []api.Instr{do(api.OpPrim, v, 3, 0), do(api.OpPrim, w, 4, 0), do(api.OpXor, 5, w, v)}}, ones(3)...)
				hasGroups(t, "test of another", api.Func{Code: []api.Instr{do(api.OpEqual, v, w, v), do(api.OpJumpNot, w, 77, v)}}, ones(2)...)
				hasGroups(t, "another box", api.Func{Code: []api.Instr{do(api.OpFree, v, w, w), do(api.OpBoxGet, v, w, v)}}, ones(2)...)
			}
		}
	}
}

// P10.1: which of two is taken that lie over one another: the earlier row of the table, and ahead of all the earlier place.
func TestWhichIsTaken(t *testing.T) {
	p, q := do(api.OpPrim, 1, 4, 0), do(api.OpPrim, 2, 5, 0)
	less, not := do(api.OpLess, 0, 1, 2), do(api.OpJumpNot, 0, 0, 0)
	move, free, get := do(api.OpMove, 0, 1, 0), do(api.OpFree, 2, 0, 0), do(api.OpBoxGet, 1, 2, 0)
	for _, k := range []struct {
		l    []api.Instr
		want []int
	}{
		{[]api.Instr{p, q, less, not}, []int{api.GroupArith, api.GroupOne}},
		{[]api.Instr{p, p, q, less, not}, []int{api.GroupOne, api.GroupArith, api.GroupOne}},
		{[]api.Instr{p, q, q, less, not}, []int{api.GroupOne, api.GroupOne, api.GroupOne, api.GroupTest}},
		{[]api.Instr{q, p, less, not}, []int{api.GroupOne, api.GroupOne, api.GroupTest}},
		{[]api.Instr{p, q, do(api.OpEqual, 0, 1, 2), not}, []int{api.GroupOne, api.GroupOne, api.GroupTest}},
		{[]api.Instr{less, less, not, not}, []int{api.GroupOne, api.GroupTest, api.GroupOne}},
		{[]api.Instr{move, move, move}, []int{api.GroupMoves, api.GroupOne}},
		{[]api.Instr{move, move, move, move}, []int{api.GroupMoves, api.GroupMoves}},
		{[]api.Instr{move, move, move, move, move, back}, []int{api.GroupMoves, api.GroupMoves, api.GroupOne, api.GroupOne}},
		{[]api.Instr{free, free, get, get}, []int{api.GroupOne, api.GroupFree, api.GroupOne}},
		{[]api.Instr{p, move, move, q, less}, []int{api.GroupOne, api.GroupMoves, api.GroupOne, api.GroupOne}},
		{[]api.Instr{nop, p, q, less, p, q, less}, []int{api.GroupOne, api.GroupArith, api.GroupArith}},
	} {
		hasGroups(t, "taken", api.Func{Code: k.l}, k.want...)
	}
}

// P10.1: a group at the very end of the code, and one whose last instructions are lacking there.
func TestAtTheEnd(t *testing.T) {
	for _, kind := range kinds {
		l := fits(kind)
		for n := 1; n <= len(l); n++ {
			want := ones(n)
			if n == len(l) {
				want = []int{kind}
			}
			hasGroups(t, "the whole code", api.Func{Code: l[:n]}, want...)
			hasGroups(t, "at the end", api.Func{Code: cat([]api.Instr{nop, back}, l[:n])}, append(ones(2), want...)...)
		}
		// What stands behind the code's end, in the same memory, is none of it.
		whole := cat(l, fits(api.GroupMoves))
		for n := 1; n < len(l); n++ {
			hasGroups(t, "memory behind the end", api.Func{Code: whole[:n]}, ones(n)...)
		}
	}
}

// P10.1, P10.3: what goes to a place of a group: at its beginning it changes nothing, at a later place there is no such group.
func TestStartsInside(t *testing.T) {
	jumps := func(to int) map[string]api.Func {
		return map[string]api.Func{
			"a jump":     {Code: []api.Instr{do(api.OpJump, to, 50, 51)}},
			"a jump if":  {Code: []api.Instr{do(api.OpJumpIf, 50, to, 51)}},
			"a jump not": {Code: []api.Instr{do(api.OpJumpNot, 50, to, 51)}},
			"a target":   {Code: []api.Instr{nop}, Handlers: []api.Handler{{From: 0, To: 1, Target: to}}},
			"the second": {Code: []api.Instr{nop}, Handlers: []api.Handler{{From: 0, To: 1, Target: 0}, {From: 9, To: 3, Target: to}}},
		}
	}
	for _, kind := range kinds {
		l := fits(kind)
		if kind == api.GroupTest { // its own jump goes to the first instruction, ahead of it
			l[1].B = 0
		}
		for to := -1; to <= len(l)+3; to++ {
			for what, f := range jumps(to) {
				want := []int{api.GroupOne, kind}
				if to > 1 && to <= len(l) {
					want = ones(1 + len(l))
				}
				f.Code = cat(f.Code, l)
				hasGroups(t, fmt.Sprint(what, " ahead, to ", to), f, want...)
			}
			for what, f := range jumps(to) {
				want := []int{kind, api.GroupOne}
				if to > 0 && to < len(l) {
					want = ones(len(l) + 1)
				}
				f.Code = cat(l, f.Code)
				hasGroups(t, fmt.Sprint(what, " behind, to ", to), f, want...)
			}
		}
	}
}

// P10.1: what a handler covers is no place of code.Starts: where its stretch begins and ends parts no group; where it catches does.
func TestHandlersStretch(t *testing.T) {
	for _, kind := range kinds {
		l := cat(fits(kind), []api.Instr{back})
		for from := -1; from <= len(l)+1; from++ {
			for to := -1; to <= len(l)+1; to++ {
				f := api.Func{Code: l, Handlers: []api.Handler{{From: from, To: to, Target: len(l) - 1}}}
				hasGroups(t, "a stretch", f, kind, api.GroupOne)
			}
		}
	}
}

// P10.1: a group of two may be left where one of three is parted, and a group that begins within the parted one.
func TestPartedStillHasOthers(t *testing.T) {
	p, q := do(api.OpPrim, 1, 4, 0), do(api.OpPrim, 2, 5, 0)
	l := []api.Instr{p, q, do(api.OpLess, 0, 1, 2), do(api.OpJumpIf, 0, 2, 0), do(api.OpReturn, 0, 0, 0)}
	hasGroups(t, "a jump to the comparison", api.Func{Code: l}, api.GroupOne, api.GroupOne, api.GroupTest, api.GroupOne)
	l[3].B = 3
	hasGroups(t, "a jump to itself", api.Func{Code: l}, api.GroupArith, api.GroupOne, api.GroupOne)
	l[3].B = 1
	hasGroups(t, "a jump to the second Prim", api.Func{Code: l}, api.GroupOne, api.GroupOne, api.GroupTest, api.GroupOne)
	move := do(api.OpMove, 0, 1, 0)
	hasGroups(t, "a jump to the second Move", api.Func{Code: []api.Instr{move, move, move, do(api.OpJump, 1, 0, 0)}}, api.GroupOne, api.GroupMoves, api.GroupOne)
	hasGroups(t, "jumps to the second and third", api.Func{Code: []api.Instr{move, move, move, move, do(api.OpJump, 1, 0, 0), do(api.OpJump, 2, 0, 0)}}, api.GroupOne, api.GroupOne, api.GroupMoves, api.GroupOne, api.GroupOne)
	hasGroups(t, "a test that jumps into itself", api.Func{Code: []api.Instr{do(api.OpSame, 1, 0, 0), do(api.OpJumpNot, 1, 1, 0)}}, ones(2)...)
	hasGroups(t, "a test that jumps to itself", api.Func{Code: []api.Instr{do(api.OpSame, 1, 0, 0), do(api.OpJumpNot, 1, 0, 0)}}, api.GroupTest)
}

// P10.1, P10.3: code that code.Check does not take: jumps out of the code, operands at both ends of the numbers, Ops that there are not.
func TestWrongCode(t *testing.T) {
	for _, v := range []int{math.MinInt, math.MinInt + 1, -1, 7, 8, 65536, math.MaxInt - 1, math.MaxInt} {
		f := api.Func{
			Code:     cat(fits(api.GroupArith), fits(api.GroupMoves), []api.Instr{do(api.OpJump, v, v, v), do(api.OpJumpIf, v, v, v)}),
			Handlers: []api.Handler{{From: v, To: v, Target: v}, {From: math.MaxInt, To: math.MinInt, Target: v}},
		}
		if code.Check(api.Program{Funcs: []api.Func{f}}) == api.OK {
			t.Error("code that is to be wrong is right:", v)
		}
		hasGroups(t, fmt.Sprint("to ", v), f, api.GroupArith, api.GroupMoves, api.GroupOne, api.GroupOne)
		hasGroups(t, fmt.Sprint("Op ", v), api.Func{Code: []api.Instr{do(v*128, v, v, v), do(v*128, v, v, v)}}, ones(2)...)
	}
	hasGroups(t, "operands alone", api.Func{Regs: -1, Params: 9, Code: []api.Instr{do(api.OpFree, -7, 1<<40, -1), do(api.OpBoxGet, 1<<50, -7, 3)}}, api.GroupFree)
}

// P10.1: code of the greatest length, and of more.
func TestLongCode(t *testing.T) {
	for _, n := range []int{api.MaxCode, 3*api.MaxCode + 2} {
		f := api.Func{Code: make([]api.Instr, n)}
		for i := range f.Code {
			f.Code[i] = do(api.OpMove, 0, 0, 0)
		}
		want := make([]int, n/2)
		for i := range want {
			want[i] = api.GroupMoves
		}
		hasGroups(t, "Moves", f, want...)
		for i := range f.Code {
			f.Code[i] = do(api.OpJump, n-1-i, 0, 0)
		}
		hasGroups(t, "jumps", f, ones(n)...)
	}
}

// P10.1, P10.3: code of programs, which emit made: it has groups of each kind, and they are those of a second reading.
func TestPrograms(t *testing.T) {
	var seen [5]int
	for _, s := range programs() {
		for _, f := range program(t, s).Funcs {
			l := fuse.Groups(f)
			if want := modelGroups(f); !slices.Equal(l, want) {
				t.Errorf("%s: %+v has the groups %v, not %v", s, f, l, want)
			}
			if why := uneven(f, l); why != "" {
				t.Errorf("%s: %+v: %s", s, f, why)
			}
			for _, g := range l {
				seen[g.Kind]++
			}
			for at := range f.Code {
				i, far, ok := fuse.Where(l, at)
				if !ok || l[i].At+far != at || far < 0 || far >= l[i].Len {
					t.Errorf("%s: Where(%v, %d) is %d %d %t", s, l, at, i, far, ok)
				}
			}
		}
	}
	if slices.Min(seen[:]) < 3 {
		t.Error("few of a kind:", seen)
	}
}

// R4, R5, R6: the code stays as it was, what is told is the caller's own, and is told again.
func TestGroupsRules(t *testing.T) {
	f := program(t, programs()[6]).Funcs[0]
	f.Handlers = []api.Handler{{From: 0, To: 3, Target: 2}}
	was := api.Func{Code: slices.Clone(f.Code), Handlers: slices.Clone(f.Handlers)}
	l := fuse.Groups(f)
	first := slices.Clone(l)
	for i := range l {
		l[i] = api.Group{At: -1, Len: -1, Kind: -1}
	}
	if !slices.Equal(fuse.Groups(f), first) {
		t.Error("the groups are others the second time")
	}
	if !slices.Equal(f.Code, was.Code) || !slices.Equal(f.Handlers, was.Handlers) {
		t.Error("the code is not as it was")
	}
	clear(f.Code)
	if !slices.Equal(fuse.Groups(was)[:1], first[:1]) {
		t.Error("the groups hang on code that was handed in before")
	}
}
