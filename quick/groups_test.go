package quick_test

import (
	"slices"
	"testing"

	"brazier/api"
	"brazier/word"
)

// grouped is code with groups of two and of three; at 6 it goes on at 8.
func grouped() api.Program {
	return api.Program{Funcs: []api.Func{{
		Regs:   8,
		Consts: []api.Const{{Bits: 0x4000 << 48}, {IsText: true, Text: "a"}},
		Code: []api.Instr{
			{Op: api.OpConst, A: 1, B: 0},
			{Op: api.OpConst, A: 2, B: 0},
			{Op: api.OpPrim, A: 3, B: 1},
			{Op: api.OpPrim, A: 4, B: 2},
			{Op: api.OpAdd, A: 5, B: 3, C: 4},
			{Op: api.OpLess, A: 6, B: 1, C: 2},
			{Op: api.OpJumpNot, A: 6, B: 8},
			{Op: api.OpNop},
			{Op: api.OpMove, A: 1, B: 2},
			{Op: api.OpMove, A: 2, B: 1},
			{Op: api.OpMove, A: 0, B: 1},
			{Op: api.OpReturn, A: 0},
		},
	}}}
}

// P18.2: the instructions of the group, from where the machine stands, and at most so many.
func TestGroups(t *testing.T) {
	for _, k := range []struct {
		most int
		want []int
	}{
		{1, []int{1, 1, 1, 1, 1, 1, 1, 1, 1, 1, 1}},
		{2, []int{1, 1, 2, 1, 2, 2, 1, 1}},
		{3, []int{1, 1, 3, 2, 2, 1, 1}},
		{1 << 40, []int{1, 1, 3, 2, 2, 1, 1}},
	} {
		b := beside(t, "groups", grouped())
		var got []int
		for b.m.End() == api.EndRunning {
			got = append(got, b.step(k.most))
			b.same()
		}
		if !slices.Equal(got, k.want) {
			t.Errorf("by %d: %v, want %v", k.most, got, k.want)
		}
		b.all()
	}
}

// P18.2, P18.6: a group that is entered in its middle is done from there on; what is known there is known whichever way it was come by.
func TestMiddle(t *testing.T) {
	left := []int{1, 1, 3, 2, 1, 2, 1, 1, 2, 1, 1, 1}
	for at, want := range left {
		for most := 1; most <= 4; most++ {
			b := beside(t, "groups", grouped())
			b.step(1)
			b.step(1)
			b.m.Jump(at)
			b.s.m.Jump(at)
			if n := b.step(most); n != min(most, want) {
				t.Errorf("at %d by %d: %d", at, most, n)
			}
			b.run(1, most)
		}
	}
}

// P18.2: a group is left where an object is made a primitive by a call, and gone on with behind it; P18.6.
func TestLeft(t *testing.T) {
	for most := 2; most <= 4; most++ {
		b := beside(t, "groups", grouped())
		b.step(1)
		b.step(1)
		o := word.Object(uint32(b.m.Heap().Objects() - 1))
		b.m.SetReg(1, o)
		b.s.m.SetReg(1, o)
		if n := b.step(most); n != 1 || b.m.Func() >= ahead {
			t.Errorf("by %d: %d, at %d", most, n, b.m.Func())
		}
		for b.m.Func() < ahead {
			b.step(most)
			b.same()
		}
		if b.m.Pc() != 3 {
			t.Fatal("it goes on at", b.m.Pc())
		}
		if n := b.step(most); n != 2 {
			t.Error("by", most, "from 3 on:", n)
		}
		b.run(1, most)
	}
}

// P18.2, P18.6: a group is left where an object can't be made a primitive for want of room for one more call: what is caught may stand in the same function, or in another one, at the very place behind.
func TestThrownWithin(t *testing.T) {
	f := api.Func{Regs: 4, Code: []api.Instr{
		{Op: api.OpThis, A: 0},
		{Op: api.OpPrim, A: 1, B: 0}, // of an object whose valueOf is this function: at the 200th call it throws
		{Op: api.OpPrim, A: 2, B: 0},
		{Op: api.OpAdd, A: 3, B: 1, C: 2},
		{Op: api.OpReturn, A: 3},
	}}
	main := api.Func{Regs: 6, Consts: []api.Const{{IsText: true, Text: "valueOf"}}, Handlers: []api.Handler{{From: 0, To: 10, Target: 2}}, Code: []api.Instr{
		{Op: api.OpJump, A: 3},
		{Op: api.OpNop},
		{Op: api.OpReturn, A: 0},
		{Op: api.OpObject, A: 0},
		{Op: api.OpClosure, A: 1, B: 1},
		{Op: api.OpSetNamed, A: 0, B: 0, C: 1},
		{Op: api.OpMove, A: 2, B: 1},
		{Op: api.OpMove, A: 3, B: 0},
		{Op: api.OpCall, A: 4, B: 2},
		{Op: api.OpReturn, A: 4},
	}}
	for _, handlers := range [][]api.Handler{nil, {{From: 1, To: 4, Target: 0}}, {{From: 1, To: 4, Target: 4}}} {
		f.Handlers = handlers
		for most := 1; most <= 4; most++ {
			b := beside(t, "thrown within a group", api.Program{Funcs: []api.Func{main, f}})
			for n := 0; b.m.End() == api.EndRunning && n < 4000; n++ {
				if b.m.Func() == ahead && b.m.Pc() == 2 {
					b.same()
				}
				b.step(most)
			}
			b.all()
		}
	}
}

// P18.4: what is done fast is what small.Fast does, when the place knows of whole numbers alone; what is met through SetReg counts like anything else.
func TestArithTurns(t *testing.T) {
	p := grouped()
	p.Funcs[0].Code = []api.Instr{
		{Op: api.OpAdd, A: 2, B: 0, C: 1},
		{Op: api.OpJump, A: 0},
	}
	b := beside(t, "adds for ever", p)
	text, _ := b.m.Heap().Text("a")
	b.s.m.Heap().Text("a")
	at := spot{ahead, 0}
	for n, k := range []struct {
		a, b          api.Word
		state, turned int
	}{
		{word.Int(1), word.Int(2), api.ArithInt, 1},
		{word.Int(1), word.Int(2), api.ArithInt, 1},
		{word.Int(1 << 30), word.Int(1 << 30), api.ArithInt, 1},
		{word.Int(-1 << 31), word.Int(-1), api.ArithInt, 1},
		{word.Int(5), word.Int(-5), api.ArithInt, 1},
		{word.Number(0x3fe0 << 48), word.Int(5), api.ArithNum, 2},
		{word.Int(5), word.Int(5), api.ArithNum, 2},
		{word.Number(0x7ff8 << 48), word.Number(0x8000 << 48), api.ArithNum, 2},
		{word.Int(5), text, api.ArithAny, 3},
		{word.Int(5), word.Int(6), api.ArithAny, 3},
		{word.Undefined, word.Null, api.ArithAny, 3},
	} {
		for _, m := range []interface{ SetReg(int, api.Word) }{b.m, b.s.m} {
			m.SetReg(0, k.a)
			m.SetReg(1, k.b)
		}
		b.step(1)
		b.same()
		b.step(1)
		if b.q.Arith(at.fn, at.pc) != k.state || b.q.Turned(at.fn, at.pc) != k.turned {
			t.Error(n, b.q.Arith(at.fn, at.pc), b.q.Turned(at.fn, at.pc))
		}
	}
	b.laws()
}
