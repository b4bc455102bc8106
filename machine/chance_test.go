package machine_test

import (
	"fmt"
	"testing"

	"brazier/api"
	"brazier/code"
	"brazier/machine"
	"brazier/word"
)

// chanceCode is a program by chance that code.Check takes: instructions of all kinds, operands of all sizes that may be.
func chanceCode(c *chance) api.Program {
	p := api.Program{Funcs: make([]api.Func, 2+c.below(4))}
	for i := range p.Funcs {
		f := &p.Funcs[i]
		f.Regs = 3 + c.below(10)
		f.Consts = []api.Const{{Bits: c.next()}, {IsText: true, Text: c.of("x", "y", "length", "0", "prototype")}, {IsText: true, Text: c.of("next", "toString", "valueOf", "$$iterator", "call", "apply")}, {Bits: 0x4008 << 48}}
		if i > 0 {
			f.Generator, f.Params = c.below(3) == 0, c.below(3)
			for range c.below(3) {
				f.Captures = append(f.Captures, api.Capture{Index: c.below(3)})
			}
		}
		f.Code = make([]api.Instr, 12+c.below(30))
		for range c.below(3) {
			from := c.below(len(f.Code))
			f.Handlers = append(f.Handlers, api.Handler{From: from, To: from + 1 + c.below(len(f.Code)-from), Target: c.below(len(f.Code))})
		}
		if c.below(4) > 0 {
			f.Handlers = append(f.Handlers, api.Handler{From: 0, To: len(f.Code), Target: c.below(len(f.Code))})
		}
	}
	for i, f := range p.Funcs {
		for k := range f.Code {
			f.Code[k] = chanceInstr(c, p, i, c.below(api.Ops+1))
		}
		f.Code[len(f.Code)-1] = api.Instr{Op: []int{api.OpReturn, api.OpThrow, api.OpJump, api.OpJump}[c.below(4)]}
	}
	callEach(p)
	return p
}

// callEach lets the program begin by calling each of its functions; what a generator's answers goes on.
func callEach(p api.Program) {
	f := &p.Funcs[0]
	next := len(f.Consts)
	f.Consts = append(f.Consts, api.Const{IsText: true, Text: "next"})
	for i := 1; i < len(p.Funcs); i++ {
		l := []api.Instr{{Op: api.OpClosure, A: 0, B: i}, {Op: api.OpCall, A: 1, B: 0}, {Op: api.OpGetNamed, A: 0, B: 1, C: next}, {Op: api.OpCall, A: 2, B: 0}}
		if !p.Funcs[i].Generator {
			l = l[:2]
		}
		f.Code = append(l, f.Code...)
		for k := range f.Handlers {
			f.Handlers[k].To += len(l)
		}
	}
}

func chanceInstr(c *chance, p api.Program, of, op int) api.Instr {
	f := p.Funcs[of]
	if op == api.OpYield && !f.Generator || op == api.OpFree && len(f.Captures) == 0 {
		op = api.OpCall
	}
	var l [3]int
	for k, letter := range code.Shape(op) {
		switch letter {
		case 'w', 'r':
			l[k] = c.below(f.Regs)
			if code.Shape(op)[2] == 'n' && k == 1 {
				l[k] = c.below(f.Regs - 1)
			}
		case 'k':
			l[k] = c.below(len(f.Consts))
		case 'x':
			l[k] = 1 + c.below(2)
		case 's':
			l[k] = c.below(5)
		case 'f':
			l[k] = 1 + c.below(len(p.Funcs)-1)
		case 'c':
			l[k] = c.below(len(f.Captures))
		case 'b':
			l[k] = c.below(api.Builtins)
		case 't':
			l[k] = c.below(len(f.Code))
		case 'h':
			l[k] = c.below(2)
		case 'n':
			l[k] = c.below(f.Regs - 1 - l[1])
		}
	}
	return api.Instr{Op: op, A: l[0], B: l[1], C: l[2]}
}

// chanceWord is any word: of what there is, as a rule.
func chanceWord(c *chance, m *machine.Machine) api.Word {
	switch c.below(8) {
	case 0:
		return api.Word(c.next())
	case 1:
		return word.Undefined + api.Word(c.below(6))
	case 2:
		w, _ := m.Heap().Text(c.of("x", "1", "length", "", "0x10"))
		return w
	case 3:
		return word.Int(int32(c.next()))
	case 4:
		return word.Object(uint32(c.next()))
	case 5:
		return word.Text(uint32(c.below(300)))
	case 6:
		return word.Object(uint32(m.Heap().Objects() - 1 - c.below(9)))
	}
	return word.Object(uint32(c.below(m.Heap().Objects())))
}

// meddle does something to a machine, or to its heap, that nobody would.
func meddle(c *chance, m *machine.Machine) {
	o := word.Object(uint32(c.below(m.Heap().Objects())))
	switch c.below(12) {
	case 0, 1, 2, 3, 4:
		m.SetReg(c.below(14)-1, chanceWord(c, m))
	case 5:
		m.Jump(c.below(44) - 2)
	case 6:
		m.Skip()
	case 7:
		m.Heap().SetInner(o, []api.Word{chanceWord(c, m), chanceWord(c, m)}[c.below(3)%2:])
	case 8:
		m.Heap().Put(o, c.of("x", "prototype", "name", "next", "$$iterator"), api.Desc{Value: chanceWord(c, m), Set: chanceWord(c, m), Flags: c.below(16)})
	case 9:
		m.Heap().Make(c.below(8), o)
	case 10:
		m.Heap().SetElem(o, c.below(6), chanceWord(c, m))
	case 11:
		m.Heap().SetInner(o, nil)
	}
}

// R1, R6: whatever code there is, whatever the registers, the heap and the places are made by others: each step ends, none panics, and two machines to which the same is done are in one state.
func TestAnythingGoes(t *testing.T) {
	for part := range 8 {
		t.Run(fmt.Sprint(part), func(t *testing.T) {
			t.Parallel()
			c := chance(1000 + part)
			ops, done := map[int]int{}, 0
			for range 250 {
				p := chanceCode(&c)
				if e := code.Check(p); e != api.OK {
					t.Fatal(e)
				}
				m, n := of(t, p), of(t, p)
				anything(t, &c, m, n, ops)
				if m.End() != api.EndRunning {
					done++
				}
			}
			for op := range api.Ops + 1 {
				if ops[op] < 10 {
					t.Error(op, "was done", ops[op], "times alone")
				}
			}
			if done < 50 {
				t.Error(done, "programs came to an end")
			}
		})
	}
}

func anything(t *testing.T, c *chance, m, n *machine.Machine, ops map[int]int) {
	p := m.Program()
	for k := range 300 {
		if c.below(3) == 0 {
			twin := *c
			meddle(c, m)
			meddle(&twin, n)
		}
		if fn := m.Func(); fn >= 0 {
			ops[p.Funcs[fn].Code[m.Pc()].Op]++
		}
		running, count := m.End() == api.EndRunning, m.Count()
		if m.Step() != running || n.Step() != running || running && m.Count() != count+1 {
			t.Fatal("Step, while End is", m.End(), "and Count", count, m.Count())
		}
		if k%37 == 0 && stateOf(m) != stateOf(n) {
			t.Fatal(unlike(m.State(), n.State()))
		}
		if !running {
			stands(t, m)
			return
		}
	}
}
