package code_test

import (
	"fmt"
	"math"
	"slices"
	"testing"

	"brazier/api"
	"brazier/code"
)

func jump(to int) api.Instr    { return api.Instr{Op: api.OpJump, A: to, B: 77, C: 78} }
func jumpIf(to int) api.Instr  { return api.Instr{Op: api.OpJumpIf, A: 79, B: to, C: 78} }
func jumpNot(to int) api.Instr { return api.Instr{Op: api.OpJumpNot, A: 79, B: to, C: 78} }
func handler(l ...int) api.Func {
	return api.Func{Handlers: []api.Handler{{From: l[0], To: l[1], Target: l[2]}}}
}

// goes: behind the place at, code goes on at those of want.
func goes(t *testing.T, f api.Func, at int, want ...int) {
	t.Helper()
	if got := code.Next(f, at); !slices.Equal(got, want) {
		t.Errorf("Next(%+v, %d): %v, not %v", f, at, got, want)
	}
}

func begins(t *testing.T, f api.Func, want ...int) {
	t.Helper()
	if got := code.Starts(f); !slices.Equal(got, want) {
		t.Errorf("Starts(%+v): %v, not %v", f, got, want)
	}
}

// P8.3: the chapter's example.
func TestNextExample(t *testing.T) {
	f := api.Func{Regs: 1, Code: []api.Instr{{Op: api.OpJumpIf, B: 2}, {Op: api.OpMove}, back}}
	goes(t, f, 0, 1, 2)
	goes(t, f, 1, 2)
	goes(t, f, 2)
	begins(t, f, 2)
}

// P8.3: each Op, ahead of another instruction, and as the last.
func TestNextOfEachOp(t *testing.T) {
	for op := -2; op <= 65; op++ {
		in := api.Instr{Op: op, A: 40, B: 50, C: 60}
		f := api.Func{Code: []api.Instr{{}, in, {}}}
		last := api.Func{Code: []api.Instr{{}, in}}
		switch op {
		case api.OpReturn, api.OpThrow:
			goes(t, f, 1)
			goes(t, last, 1)
			begins(t, f)
		case api.OpJump:
			goes(t, f, 1, 40)
			goes(t, last, 1, 40)
			begins(t, f, 40)
		case api.OpJumpIf, api.OpJumpNot:
			goes(t, f, 1, 2, 50)
			goes(t, last, 1, 50)
			begins(t, f, 50)
		default:
			goes(t, f, 1, 2)
			goes(t, last, 1)
			begins(t, f)
		}
	}
}

// P8.3: jumps ahead, back, to themselves, to the next place, to the ends, and to where there is nothing.
func TestNextOfJumps(t *testing.T) {
	for _, to := range []int{0, 1, 2, 3, 4, 5, -1, -7, 99, math.MinInt, math.MaxInt} {
		f := api.Func{Code: []api.Instr{{}, {}, jump(to), {}, back}}
		goes(t, f, 2, to)
		begins(t, f, to)
		for _, in := range []api.Instr{jumpIf(to), jumpNot(to)} {
			f.Code[2] = in
			switch {
			case to < 3:
				goes(t, f, 2, to, 3)
			case to == 3:
				goes(t, f, 2, 3)
			default:
				goes(t, f, 2, 3, to)
			}
			begins(t, f, to)
		}
	}
}

// P8.3: a place that is none has none behind it, whatever Handlers say.
func TestNextOfNoPlace(t *testing.T) {
	f := api.Func{Code: []api.Instr{{}, {}, back}, Handlers: []api.Handler{{From: math.MinInt, To: math.MaxInt, Target: 1}}}
	for _, at := range []int{-1, 3, 4, math.MinInt, math.MaxInt, math.MaxInt - 1} {
		goes(t, f, at)
		goes(t, api.Func{}, at)
	}
	goes(t, api.Func{}, 0)
	begins(t, api.Func{})
	begins(t, f, 1)
}

// P8.3: Handlers: the first whose stretch holds the place; of any instruction that stands there.
func TestNextOfHandlers(t *testing.T) {
	f := api.Func{Code: []api.Instr{{}, {}, {}, {}, {}, {Op: api.OpThrow}, back}, Handlers: []api.Handler{{From: 1, To: 3, Target: 5}, {From: 2, To: 2, Target: 90}, {From: 3, To: 1, Target: 91}, {From: 2, To: 5, Target: 0}, {From: 2, To: 7, Target: 6}}}
	goes(t, f, 0, 1)
	goes(t, f, 1, 2, 5)
	goes(t, f, 2, 3, 5)
	goes(t, f, 3, 0, 4)
	goes(t, f, 4, 0, 5)
	goes(t, f, 5, 6)
	goes(t, f, 6, 6)
	begins(t, f, 0, 5, 6, 90, 91)
}

// P8.3: Handlers of one instruction, of all, that go to the next place, and that are no ranges.
func TestNextOfHandlersEdges(t *testing.T) {
	for _, k := range []struct {
		from, to, target int
		want             []int
	}{
		{1, 2, 4, []int{2, 4}}, {0, 1, 4, []int{2}}, {2, 3, 4, []int{2}}, {0, 2, 2, []int{2}}, {0, 3, 1, []int{1, 2}}, {-9, 99, 0, []int{0, 2}},
		{1, 2, -8, []int{-8, 2}}, {1, 2, 80, []int{2, 80}}, {1, 1, 4, []int{2}}, {2, 1, 4, []int{2}}, {math.MinInt, math.MaxInt, math.MaxInt, []int{2, math.MaxInt}},
	} {
		f := handler(k.from, k.to, k.target)
		f.Code = []api.Instr{{}, {}, back}
		goes(t, f, 1, k.want...)
		begins(t, f, k.target)
	}
}

// P8.3: a jump, a Handler and the next place, all different, all the same.
func TestNextOfAll(t *testing.T) {
	f := handler(0, 1, 4)
	f.Code = []api.Instr{jumpIf(7), back}
	goes(t, f, 0, 1, 4, 7)
	begins(t, f, 4, 7)
	f.Code[0] = jumpNot(4)
	goes(t, f, 0, 1, 4)
	begins(t, f, 4)
	f.Handlers[0].Target = 1
	f.Code[0] = jumpIf(1)
	goes(t, f, 0, 1)
	begins(t, f, 1)
	f.Code[0] = jump(1)
	goes(t, f, 0, 1)
	f.Code[0] = jump(0)
	goes(t, f, 0, 0, 1)
}

// P8.3: Starts are each there once, rising, wherever they come from; an operand that is no place's is none of them.
func TestStarts(t *testing.T) {
	f := api.Func{Code: []api.Instr{jump(9), jumpIf(3), jumpNot(9), jump(3), jumpIf(-4), jumpNot(0), {Op: api.OpAdd, A: 11, B: 12, C: 13}, {Op: api.OpThrow, A: 14}}, Handlers: []api.Handler{{From: 21, To: 22, Target: 5}, {Target: 3}, {Target: 5}, {Target: 100}}}
	begins(t, f, -4, 0, 3, 5, 9, 100)
	begins(t, api.Func{Code: []api.Instr{jump(0)}}, 0)
	begins(t, handler(0, 0, 0), 0)
	begins(t, api.Func{Code: []api.Instr{back}})
}

// P8.3 against a reading of the chapter: over all places, by whether each one is to be told.
func TestNextAgainstModel(t *testing.T) {
	c := chance(83)
	for range 4000 {
		f := anyFunc(&c)
		for at := -1; at <= len(f.Code); at++ {
			var want []int
			for to := -3; to <= 12; to++ {
				if mayGo(f, at, to) {
					want = append(want, to)
				}
			}
			goes(t, f, at, want...)
		}
		var want []int
		for to := -3; to <= 12; to++ {
			if isStart(f, to) {
				want = append(want, to)
			}
		}
		begins(t, f, want...)
	}
}

// anyFunc: code that need not be right: operands and places from -3 to 12.
func anyFunc(c *chance) api.Func {
	var f api.Func
	for range c.below(9) {
		f.Code = append(f.Code, api.Instr{Op: c.of(0, 3, 21, 55, 56, 57, 57, 58, 58, 59, 59, 60, 63), A: c.below(16) - 3, B: c.below(16) - 3, C: c.below(16) - 3})
	}
	for range c.below(4) {
		f.Handlers = append(f.Handlers, api.Handler{From: c.below(12) - 2, To: c.below(12) - 2, Target: c.below(16) - 3})
	}
	return f
}

func mayGo(f api.Func, at, to int) bool {
	if at < 0 || at >= len(f.Code) {
		return false
	}
	first := slices.IndexFunc(f.Handlers, func(h api.Handler) bool { return h.From <= at && at < h.To })
	if first >= 0 && f.Handlers[first].Target == to {
		return true
	}
	i, next := f.Code[at], to == at+1 && to != len(f.Code)
	switch i.Op {
	case 55, 56:
		return false
	case 57:
		return i.A == to
	case 58, 59:
		return i.B == to || next
	}
	return next
}

func isStart(f api.Func, to int) bool {
	return slices.ContainsFunc(f.Handlers, func(h api.Handler) bool { return h.Target == to }) ||
		slices.ContainsFunc(f.Code, func(i api.Instr) bool { return i.Op == 57 && i.A == to || (i.Op == 58 || i.Op == 59) && i.B == to })
}

// R4, R5, R6: what is told is the caller's own, what is asked stays as it was, and is told the same again.
func TestNextKeeps(t *testing.T) {
	f := handler(0, 3, 2)
	f.Code = []api.Instr{jumpIf(2), jump(0), back}
	before := fmt.Sprintf("%+v", f)
	for range 3 {
		for at := range f.Code {
			l := code.Next(f, at)
			for i := range l {
				l[i] = 70
			}
		}
		l := code.Starts(f)
		for i := range l {
			l[i] = 70
		}
	}
	if fmt.Sprintf("%+v", f) != before {
		t.Error("it was changed")
	}
	goes(t, f, 0, 1, 2)
	goes(t, f, 1, 0, 2)
	begins(t, f, 0, 2)
}
